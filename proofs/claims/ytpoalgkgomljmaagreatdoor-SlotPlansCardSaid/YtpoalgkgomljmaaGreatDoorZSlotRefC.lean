/- The reference's Plan of layer 13. Written by gen/gen_slot.py. -/
import Derived.Test.YtpoalgkgomljmaaGreatDoorZSlotRefB
import Derived.Test.YtpoalgkgomljmaaGreatDoorMg15
import Derived.Test.YtpoalgkgomljmaaGreatDoorZHeldRefG
namespace Go.Proofs.YtpoalgkgomljmaaGreatDoor
open Go.RowKit

set_option maxRecDepth 100000 in
set_option maxHeartbeats 8000000 in
theorem refPlanS_any {A A2 A3 A4 : Option Addr} {n c n2 c2 n3 c3 n4 c4 : Nat} {g : Gr} {use : List Int} {l : Tb} {ws : List Wn} {t u : Int} {w : World} (hg : GAsk w A n c g) (hu : LAsk w A2 n2 c2 use) (hl : TAsk w A3 n3 c3 l) (hw : WnAsk w A4 n4 c4 ws) (ht : I64 t) (hv : I64 u) : Calls Tryz.prog 16 #[.slice A n c, .slice A2 n2 c2, .slice A3 n3 c3, .slice A4 n4 c4, .int .i64 t, .int .i64 u] w (TEPost (planT g use l ws t u) (planE g use l ws t u) w) := by
  have HT := Lib.hid ht
  have HV := Lib.hid hv
  have HG := Lib.hid hg
  have HU := Lib.hid hu
  have HL0 := Lib.hid hl
  have HW := Lib.hid hw
  have hn4 := hw.few
  unfold maxLen at hn4
  have HWL := Lib.hid hw.len
  have HFL := Lib.hid hl.few
  clear hg hu hl hw ht hv
  cases hr : rightT l with
  | false =>
    have e1 : planE g use l ws t u = 1 := by unfold planE; rw [if_neg (by rw [hr]; decide)]
    have e2 : planT g use l ws t u = l := by unfold planT; rw [e1, if_neg (by decide)]
    rw [e1, e2]
    have HRR := Lib.hid hr
    clear hr e1 e2
    go_enter Tryz.func16, Tryz.ntmps16
    go_wp2_with fail
    refine (refRightT_b HL0.out.reads HFL.out HRR.out).mono ?_
    rintro e w1 ⟨rfl, hb⟩
    have HB := Lib.hid hb
    have TL := Lib.hid (HL0.out.next hb)
    clear hb
    go_wp2
    go_ret2
    exact tepost_mk TL.out.reads TL.out.nil TL.out.cap HB.out
  | true =>
    have hpe : planE g use l ws t u = (planR g use t u l ws).2 := by unfold planE; rw [if_pos hr]
    obtain ⟨pt, hpt⟩ : ∃ x, planT g use l ws t u = x := ⟨_, rfl⟩
    obtain ⟨pe, hpee⟩ : ∃ x, planE g use l ws t u = x := ⟨_, rfl⟩
    have HPT : Hid (∀ (o : Tb) (er : Int), planR g use t u l ws = (o, er) → pe = er ∧ pt = if er = 0 then o else l) := Lib.hid (fun o er h => by
      rw [h] at hpe
      rw [← hpee, ← hpt]
      refine ⟨hpe, ?_⟩
      unfold planT
      rw [hpe, h])
    rw [hpt, hpee]
    have HRR := Lib.hid hr
    clear hr hpe hpt hpee
    go_enter Tryz.func16, Tryz.ntmps16
    go_wp2_with fail
    refine (refRightT_b HL0.out.reads HFL.out HRR.out).mono ?_
    rintro e w1 ⟨rfl, hb⟩
    have HB1 := Lib.hid hb
    have GA := Lib.hid (HG.out.next hb)
    have UA := Lib.hid (HU.out.next hb)
    have TL := Lib.hid (HL0.out.next hb)
    have WA := Lib.hid (HW.out.next hb)
    clear hb HG HU HL0 HW
    go_wp2
    go_loopw [14, 15] (fun ov iv wr => ∃ (k : Nat) (out : Tb) (A5 : Option Addr) (n5 c5 : Nat), ov = .slice A5 n5 c5 ∧ k ≤ n4 ∧ iv = .int .i64 k ∧ TAsk wr A5 n5 c5 out ∧ planR g use t u l ws = planR g use t u out (ws.drop k) ∧ Below w1.heap.size w1 wr) (fun _ iv _ => n4 - (intOf iv).toNat)
    case atStart => exact ⟨0, l, A3, n3, c3, rfl, Nat.zero_le _, rfl, TL.out, by simp, Below.refl _ _⟩
    case round =>
      obtain ⟨k, out, A5, n5, c5, rfl, hk, rfl, hto, hpl, hbel⟩ := hrel
      have TA5 := Lib.hid hto
      have HPL := Lib.hid hpl
      have HB6 := Lib.hid (HB1.out.trans (hbel.mono HB1.out.size))
      have HBL := Lib.hid hbel
      have GA5 := Lib.hid (GA.out.next hbel)
      have UA5 := Lib.hid (UA.out.next hbel)
      have TL5 := Lib.hid (TL.out.next hbel)
      have WA5 := Lib.hid (WA.out.next hbel)
      clear hto hpl hbel
      by_cases hlt : k < n4
      · have hkl : k < ws.length := by rw [HWL.out]; exact hlt
        have hdr := wn_drop hkl
        obtain ⟨bw, offw, hA4, hbw, ⟨e0, e1, e2, e3, e4, e5, e6, e7⟩, hxs, hxi⟩ := WA5.out.one hlt
        subst hA4
        obtain ⟨x, hx⟩ : ∃ x, ws.getD k wn0 = x := ⟨_, rfl⟩
        rw [hx] at e0 e1 e2 e3 e4 e5 e6 e7 hxs hxi hdr
        have HXS := Lib.hid hxs
        have HXI := Lib.hid hxi
        rw [hdr] at HPL
        clear hx hxs hxi hdr hkl
        have HC := Lib.hid (refFirstS_any (s := x.spec) (t := t) GA5.out UA5.out TA5.out HXS.out HT.out HV.out)
        obtain ⟨ft, hft⟩ : ∃ y, firstAtS g use out x.spec t u = y := ⟨_, rfl⟩
        obtain ⟨fl, hfl⟩ : ∃ y, firstLS g use out x.spec t u = y := ⟨_, rfl⟩
        rw [hft, hfl] at HC
        cases hfb : firstBS g use out x.spec t u with
        | false =>
          rw [hfb] at HC
          have HN : Hid (planR g use t u l ws = planR g use t u out (ws.drop (k + 1))) := Lib.hid (by rw [HPL.out, planR_pass hfb])
          clear hfb hft hfl
          go_wp2_with fail
          refine HC.out.mono ?_
          rintro e w6 ⟨⟨A8, c8, rfl, _, _, _⟩, hb⟩
          have TA6 := Lib.hid (TA5.out.next hb)
          have HBN := Lib.hid (HBL.out.trans (hb.mono HBL.out.size))
          clear hb HC e0 e1 e2 e3 e4 e5 e6 e7 hbw
          go_wp2
          go_roundw
          case rel => exact ⟨k + 1, out, A5, n5, c5, rfl, by omega, by go_num, TA6.out, HN.out, HBN.out⟩
          case measure => simp [intOf] <;> omega
        | true =>
          rw [hfb] at HC
          obtain ⟨ee, hee⟩ : ∃ y, endsS x.spec ft = y := ⟨_, rfl⟩
          have hhw : heldW g use out x t u = ⟨x.id, fl, ft, ee⟩ := by unfold heldW; rw [hft, hfl, hee]
          have HFI : Hid (I64 ft ∧ I64 ee ∧ (∀ q ∈ fl, I64 q)) := Lib.hid (by
            rw [← hft, ← hfl, ← hee, ← hft]; exact first_int hfb)
          have HFL8 : Hid (fl.length ≤ maxLen) := Lib.hid (by rw [← hfl]; exact Nat.le_trans (first_len hfb) (by decide))
          have HNF : Hid (addE out ⟨x.id, fl, ft, ee⟩ = 0 → (addT out ⟨x.id, fl, ft, ee⟩).length ≤ maxLen) := Lib.hid (fun h => Nat.le_trans (addT_few h) (by decide))
          have HTI := Lib.hid HFI.out.1
          have HEE := Lib.hid hee
          obtain ⟨nt, hnt⟩ : ∃ y, addT out ⟨x.id, fl, ft, ee⟩ = y := ⟨_, rfl⟩
          obtain ⟨er, her⟩ : ∃ y, addE out ⟨x.id, fl, ft, ee⟩ = y := ⟨_, rfl⟩
          rw [hnt, her] at HNF
          have HERR : Hid (er ≠ 0 → planR g use t u l ws = (out, er)) := Lib.hid (fun h => by rw [HPL.out, planR_err hfb (by rw [hhw, her]; exact h), hhw, her])
          have HADD2 : Hid (er = 0 → planR g use t u l ws = planR g use t u nt (ws.drop (k + 1))) := Lib.hid (fun h => by rw [HPL.out, planR_add hfb (by rw [hhw, her]; exact h), hhw, hnt])
          have HADD : Hid (∀ (A8 : Option Addr) (m8 c8 : Nat) (W : World), TAsk W A5 n5 c5 out → HAsk W A8 m8 c8 ⟨x.id, fl, ft, ee⟩ → Calls Tryz.prog 37 #[.slice A5 n5 c5, .agg #[.int .i64 x.id, .slice A8 m8 c8, .int .i64 ft, .int .i64 ee]] W (TEPost nt er W)) := Lib.hid (fun A8 m8 c8 W h1 h2 => by
            have := refAdd_any A5 n5 c5 out A8 m8 c8 ⟨x.id, fl, ft, ee⟩ W h1 h2
            rw [hnt, her] at this
            exact this)
          have HEND : Hid (∀ W : World, Calls Tryz.prog 32 #[.agg #[.int .i64 x.spec.nodes, .int .i64 x.spec.cores, .int .i64 x.spec.gpus, .string x.spec.tag, .bool x.spec.whole, .int .i64 x.spec.long, .int .i64 x.spec.prio], .int .i64 ft] W fun e w' => e = .returned (.int .i64 ee) ∧ Below W.heap.size W w') := Lib.hid (fun W => refEnds_b HXS.out HTI.out HEE.out)
          clear hfb hft hfl hee hhw hnt her
          go_wp2_with fail
          refine HC.out.mono ?_
          rintro e w6 ⟨⟨A8, c8, rfl, hr8, hn8, hc8⟩, hb⟩
          have HH8 : Hid (HAsk w6 A8 fl.length c8 ⟨x.id, fl, ft, ee⟩) := Lib.hid ⟨hr8, hn8, hc8, HFL8.out, HXI.out, HFI.out.1, HFI.out.2.1, HFI.out.2.2⟩
          have hbw6 := Nat.lt_of_lt_of_le hbw hb.size
          have e0 := keep_cell hbw e0 hb
          have e1 := keep_cell hbw e1 hb
          have e2 := keep_cell hbw e2 hb
          have e3 := keep_cell hbw e3 hb
          have e4 := keep_cell hbw e4 hb
          have e5 := keep_cell hbw e5 hb
          have e6 := keep_cell hbw e6 hb
          have e7 := keep_cell hbw e7 hb
          clear hbw
          have hbw := hbw6
          clear hbw6
          have TA5q := Lib.hid (TA5.out.next hb)
          clear TA5
          have TA5 := TA5q
          clear TA5q
          have GA5q := Lib.hid (GA5.out.next hb)
          clear GA5
          have GA5 := GA5q
          clear GA5q
          have UA5q := Lib.hid (UA5.out.next hb)
          clear UA5
          have UA5 := UA5q
          clear UA5q
          have TL5q := Lib.hid (TL5.out.next hb)
          clear TL5
          have TL5 := TL5q
          clear TL5q
          have WA5q := Lib.hid (WA5.out.next hb)
          clear WA5
          have WA5 := WA5q
          clear WA5q
          have HB6q := Lib.hid (HB6.out.trans (hb.mono HB6.out.size))
          have HBLq := Lib.hid (HBL.out.trans (hb.mono HBL.out.size))
          clear HB6 HBL
          have HB6 := HB6q
          have HBL := HBLq
          clear HB6q HBLq hb hr8 hn8 hc8 HC
          obtain ⟨m8, hm8⟩ : ∃ y, fl.length = y := ⟨_, rfl⟩
          rw [hm8] at HH8 ⊢
          have HADDm := Lib.hid (HADD.out A8 m8 c8)
          clear hm8 HADD
          go_wp2_with fail
          have HKEEP : Hid (∀ wx, Below w6.drew.heap.size w6.drew wx → wx.cell? ⟨bw, offw + k * 8, none⟩ = some (.int .i64 x.id) ∧ wx.cell? ⟨bw, offw + k * 8 + 1, none⟩ = some (.int .i64 x.spec.nodes) ∧ wx.cell? ⟨bw, offw + k * 8 + 2, none⟩ = some (.int .i64 x.spec.cores) ∧ wx.cell? ⟨bw, offw + k * 8 + 3, none⟩ = some (.int .i64 x.spec.gpus) ∧ wx.cell? ⟨bw, offw + k * 8 + 4, none⟩ = some (.string x.spec.tag) ∧ wx.cell? ⟨bw, offw + k * 8 + 5, none⟩ = some (.bool x.spec.whole) ∧ wx.cell? ⟨bw, offw + k * 8 + 6, none⟩ = some (.int .i64 x.spec.long) ∧ wx.cell? ⟨bw, offw + k * 8 + 7, none⟩ = some (.int .i64 x.spec.prio)) := Lib.hid (fun wx hz' => by
            have hz := (bel_drew1 w6).trans (hz'.mono (bel_drew1 w6).size)
            exact ⟨keep_cell hbw e0 hz, keep_cell hbw e1 hz, keep_cell hbw e2 hz, keep_cell hbw e3 hz, keep_cell hbw e4 hz, keep_cell hbw e5 hz, keep_cell hbw e6 hz, keep_cell hbw e7 hz⟩)
          have hd := bel_drew1 w6
          have HB6q := Lib.hid (HB6.out.trans (hd.mono HB6.out.size))
          clear HB6
          have HB6 := HB6q
          clear HB6q
          have HBLq := Lib.hid (HBL.out.trans (hd.mono HBL.out.size))
          clear HBL
          have HBL := HBLq
          clear HBLq
          have TA5q := Lib.hid (TA5.out.next hd)
          clear TA5
          have TA5 := TA5q
          clear TA5q
          have HH8q := Lib.hid (HH8.out.next hd)
          clear HH8
          have HH8 := HH8q
          clear HH8q
          have GA5q := Lib.hid (GA5.out.next hd)
          clear GA5
          have GA5 := GA5q
          clear GA5q
          have UA5q := Lib.hid (UA5.out.next hd)
          clear UA5
          have UA5 := UA5q
          clear UA5q
          have TL5q := Lib.hid (TL5.out.next hd)
          clear TL5
          have TL5 := TL5q
          clear TL5q
          have WA5q := Lib.hid (WA5.out.next hd)
          clear WA5
          have WA5 := WA5q
          clear WA5q
          clear hd
          have HY := Lib.hid (Below.refl w6.drew.heap.size w6.drew)
          go_region_held3 (fun w' => w'.cell? ⟨bw, offw + k * 8, none⟩ = some (.int .i64 x.id) ∧ w'.cell? ⟨bw, offw + k * 8 + 1, none⟩ = some (.int .i64 x.spec.nodes) ∧ w'.cell? ⟨bw, offw + k * 8 + 2, none⟩ = some (.int .i64 x.spec.cores) ∧ w'.cell? ⟨bw, offw + k * 8 + 3, none⟩ = some (.int .i64 x.spec.gpus) ∧ w'.cell? ⟨bw, offw + k * 8 + 4, none⟩ = some (.string x.spec.tag) ∧ w'.cell? ⟨bw, offw + k * 8 + 5, none⟩ = some (.bool x.spec.whole) ∧ w'.cell? ⟨bw, offw + k * 8 + 6, none⟩ = some (.int .i64 x.spec.long) ∧ w'.cell? ⟨bw, offw + k * 8 + 7, none⟩ = some (.int .i64 x.spec.prio))
            (first | exact HKEEP.out _ (Below.refl _ _) | exact HKEEP.out _ HY.out | exact HKEEP.out _ (HY.out.alloc HY.out.size _) | go_keep | fail)
            (first | (go_at_call 32; (with_reducible refine (HEND.out w6.drew).mono ?_); rintro e w7 ⟨rfl, hb⟩; have HY := Lib.hid (HY.out.trans (hb.mono HY.out.size)); have HB6 := Lib.hid (HB6.out.trans (hb.mono HB6.out.size)); have HBL := Lib.hid (HBL.out.trans (hb.mono HBL.out.size)); have TA5 := Lib.hid (TA5.out.next hb); have HH8 := Lib.hid (HH8.out.next hb); have GA5 := Lib.hid (GA5.out.next hb); have UA5 := Lib.hid (UA5.out.next hb); have TL5 := Lib.hid (TL5.out.next hb); have WA5 := Lib.hid (WA5.out.next hb); clear hb) | (go_at_call 37; (with_reducible refine (HADDm.out w7 TA5.out HH8.out).mono ?_); rintro e w8 ⟨⟨A9, c9, rfl, hr9, hn9, hc9⟩, hb⟩; have HN9 := Lib.hid hn9; have HC9 := Lib.hid hc9; have HY := Lib.hid (HY.out.trans (hb.mono HY.out.size)); have HB6 := Lib.hid (HB6.out.trans (hb.mono HB6.out.size)); have HBL := Lib.hid (HBL.out.trans (hb.mono HBL.out.size)); have TA5 := Lib.hid (TA5.out.next hb); have HH8 := Lib.hid (HH8.out.next hb); have GA5 := Lib.hid (GA5.out.next hb); have UA5 := Lib.hid (UA5.out.next hb); have TL5 := Lib.hid (TL5.out.next hb); have WA5 := Lib.hid (WA5.out.next hb); have R9 := Lib.hid hr9; clear hb) | fail)
          clear HKEEP HY
          by_cases h0 : er = 0
          · have d0 : (er != 0) = false := by rw [h0]; rfl
            have HNX := Lib.hid (HADD2.out h0)
            have HNL := Lib.hid (HNF.out h0)
            clear h0 e0 e1 e2 e3 e4 e5 e6 e7 hbw
            go_wp2
            go_roundw
            case rel => exact ⟨k + 1, nt, A9, nt.length, c9, rfl, by omega, by go_num, ⟨R9.out, HN9.out, HC9.out, HNL.out⟩, HNX.out, HBL.out⟩
            case measure => simp [intOf] <;> omega
          · have d0 : (er != 0) = true := bne_iff_ne.2 h0
            have HX := Lib.hid (HPT.out _ _ (HERR.out h0))
            rw [if_neg h0] at HX
            clear h0 e0 e1 e2 e3 e4 e5 e6 e7 hbw
            go_wp2
            go_ret2
            rw [HX.out.1, HX.out.2]
            exact tepost_mk TL5.out.reads TL5.out.nil TL5.out.cap HB6.out
      · have HX : Hid (pe = 0 ∧ pt = out) := Lib.hid (by
          have h1 := HPL.out
          rw [List.drop_of_length_le (by rw [HWL.out]; omega)] at h1
          exact HPT.out out 0 (by rw [h1, planR]))
        go_wp2
        go_ret2
        rw [HX.out.1, HX.out.2]
        exact tepost_mk TA5.out.reads TA5.out.nil TA5.out.cap HB6.out

end Go.Proofs.YtpoalgkgomljmaaGreatDoor
