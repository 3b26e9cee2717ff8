/- The reference's Pick of layer 14, by policy 2. Written by gen/gen_pick.py. -/
import Derived.Deep.RegionHeld3
import Derived.LoopTactic
import Derived.Test.YtchogijdkagiiaaGreatDoorZSlotRefB
import Derived.Test.YtchogijdkagiiaaGreatDoorZHeldRefP
import Derived.Test.YtchogijdkagiiaaGreatDoorMg07
import Derived.Test.YtchogijdkagiiaaGreatDoorMg08
namespace Go.Proofs.YtchogijdkagiiaaGreatDoor
open Go.RowKit

set_option maxRecDepth 100000 in
set_option maxHeartbeats 8000000 in
theorem refPick_2 {A A2 A3 A4 : Option Addr} {n c n2 c2 n3 c3 n4 c4 : Nat} {g : Gr} {use : List Int} {l : Tb} {ws : List Wn} {t u d : Int} {w : World} (hg : GAsk w A n c g) (hu : LAsk w A2 n2 c2 use) (hl : TAsk w A3 n3 c3 l) (hf : FewT l) (hw : WnAsk w A4 n4 c4 ws) (hn60 : n ≤ 60) (hn34 : n3 + n4 ≤ 60) (ht : I64 t) (hv : I64 u) (hG : Glob w) (hm : PickMay 2 d l) : Calls Tryz.prog 13 #[.slice A n c, .slice A2 n2 c2, .slice A3 n3 c3, .slice A4 n4 c4, .int .i64 t, .int .i64 u, .int .i64 2, .int .i64 d] w (PKPost (pickA g use l ws t u 2 d).1 (pickA g use l ws t u 2 d).2.1 (pickA g use l ws t u 2 d).2.2 w) := by
  obtain ⟨i0, hi0, hz0, hz1, hz2⟩ : ∃ i, Tryz.prog.info? 41 = some i ∧ i.zero = some (.agg #[.int .i64 0, .slice none 0 0, .int .i64 0, .int .i64 0]) ∧ i.size = 4 ∧ i.bytes = 48 := info_parts held_info
  have HT := Lib.hid ht
  have HV := Lib.hid hv
  have HG := Lib.hid hG
  have GA := Lib.hid hg
  have UA := Lib.hid hu
  have TA := Lib.hid hl
  have WA := Lib.hid hw
  have HF := Lib.hid hf
  have HWL := Lib.hid hw.len
  have HGL : Hid (g.length ≤ 60) := Lib.hid (by rw [hg.reads.1]; omega)
  have HTL := Lib.hid hl.reads.len
  have HB := Lib.hid (Below.refl w.heap.size w)
  have HRR := Lib.hid hm.2.2.2
  have dz0 : decide (d < 0) = false := decide_eq_false (by have := hm.2.1; omega)
  have dz64 : decide (64 < d) = false := decide_eq_false (by have := hm.2.2.1; omega)
  obtain ⟨pa, hpa⟩ : ∃ x, (pickA g use l ws t u 2 d).1 = x := ⟨_, rfl⟩
  obtain ⟨pk, hpk⟩ : ∃ x, (pickA g use l ws t u 2 d).2.1 = x := ⟨_, rfl⟩
  obtain ⟨pe, hpe⟩ : ∃ x, (pickA g use l ws t u 2 d).2.2 = x := ⟨_, rfl⟩
  have HPT : Hid (∀ (a b : Tb) (er : Int), pickR g use t u 2 d l [] [] ws = (a, b, er) → pa = a ∧ pk = b ∧ pe = er) := Lib.hid (fun a b er h => by
    have e : pickA g use l ws t u 2 d = pickR g use t u 2 d l [] [] ws := if_pos hm
    rw [← hpa, ← hpk, ← hpe, e, h]
    exact ⟨rfl, rfl, rfl⟩)
  rw [hpa, hpk, hpe]
  clear ht hv hG hg hu hl hw hf hm hpa hpk hpe
  go_enter Tryz.func13, Tryz.ntmps13
  go_wp2_with fail
  refine (refRightT_b TA.out.reads TA.out.few HRR.out).mono ?_
  rintro e w1 ⟨rfl, hb⟩
  replace HG := Lib.hid (HG.out.next hb)
  replace GA := Lib.hid (GA.out.next hb)
  replace UA := Lib.hid (UA.out.next hb)
  replace TA := Lib.hid (TA.out.next hb)
  replace WA := Lib.hid (WA.out.next hb)
  replace HB := Lib.hid (HB.out.trans (hb.mono HB.out.size))
  clear hb
  have HTB := Lib.hid (tabo_start TA.out)
  go_wp2
  go_loopw [21, 2, 19, 20] (fun iv lv xb xk wr => ∃ (k : Nat) (out b kp : Tb) (A5 : Option Addr) (n5 c5 : Nat) (bv kv : Value), bv = xb ∧ kv = xk ∧ lv = .slice A5 n5 c5 ∧ k ≤ n4 ∧ iv = .int .i64 k ∧ TabO wr bv kv A5 n5 c5 out ∧ (FewT out ∧ out.length ≤ n3 + k) ∧ TwoQ EH 4 41 w1 bv kv b kp wr ∧ b.length + kp.length ≤ k ∧ pickR g use t u 2 d l [] [] ws = pickR g use t u 2 d out b kp (ws.drop k)) (fun iv _ _ _ _ => n4 - (intOf iv).toNat)
  case atStart => exact ⟨0, l, [], [], A3, n3, c3, _, _, rfl, rfl, rfl, Nat.zero_le _, rfl, HTB.out, ⟨HF.out, by rw [HTL.out]; omega⟩, TwoQ.nil _, Nat.le_refl _, by simp⟩
  case round =>
    obtain ⟨k, out, b, kp, A5, n5, c5, bv, kv, rfl, rfl, hlv, hk, hiv, hto, hfo, htw, hlbk, hpl⟩ := hrel
    subst hlv hiv
    have TO := Lib.hid hto
    have HFO := Lib.hid hfo
    have TW := Lib.hid htw
    have HLBK := Lib.hid hlbk
    have HPL0 := Lib.hid hpl
    have hbel := htw.below
    have HG5 := Lib.hid (HG.out.next hbel)
    have GA5 := Lib.hid (GA.out.next hbel)
    have UA5 := Lib.hid (UA.out.next hbel)
    have WA5 := Lib.hid (WA.out.next hbel)
    clear hto hfo htw hlbk hpl hbel
    by_cases hlt : k < n4
    · have hkl0 : k < ws.length := by rw [HWL.out]; exact hlt
      have hdr := wn_drop hkl0
      obtain ⟨bw, offw, hA4, hbw, ⟨e0, e1, e2, e3, e4, e5, e6, e7⟩, hxs, hxi⟩ := WA5.out.one hlt
      subst hA4
      obtain ⟨x, hx⟩ : ∃ x, ws.getD k wn0 = x := ⟨_, rfl⟩
      rw [hx] at e0 e1 e2 e3 e4 e5 e6 e7 hxs hxi hdr
      have HXS := Lib.hid hxs
      have HXI := Lib.hid hxi
      rw [hdr] at HPL0
      clear hx hxs hxi hdr hkl0
      have HOW : Hid ((∀ b, bv.ownBlock = some b → b < wr.heap.size) ∧ (∀ b, kv.ownBlock = some b → b < wr.heap.size)) := Lib.hid ⟨fun b h => (TW.out.one.own b h).2, fun b h => (TW.out.two.own b h).2⟩
      have HC := Lib.hid (refFirstS_any (s := x.spec) (t := t) (u := u) GA5.out UA5.out TO.out.ask HXS.out HT.out HV.out)
      obtain ⟨ft, hft⟩ : ∃ y, firstAtS g use out x.spec t u = y := ⟨_, rfl⟩
      obtain ⟨fl, hfl⟩ : ∃ y, firstLS g use out x.spec t u = y := ⟨_, rfl⟩
      rw [hft, hfl] at HC
      cases hfb : firstBS g use out x.spec t u with
      | false =>
        rw [hfb] at HC
        have HN : Hid (pickR g use t u 2 d l [] [] ws = pickR g use t u 2 d out b kp (ws.drop (k + 1))) := Lib.hid (by rw [HPL0.out, pickR_pass hfb])
        clear hfb hft hfl
        go_wp2_with fail
        refine HC.out.mono ?_
        rintro e w6 ⟨⟨A8, c8, rfl, hr8, hn8, hc8⟩, hb⟩
        have hbw6 := Nat.lt_of_lt_of_le hbw hb.size
        have e0 := keep_cell hbw e0 hb
        have e1 := keep_cell hbw e1 hb
        have e2 := keep_cell hbw e2 hb
        have e3 := keep_cell hbw e3 hb
        have e4 := keep_cell hbw e4 hb
        have e5 := keep_cell hbw e5 hb
        have e6 := keep_cell hbw e6 hb
        have e7 := keep_cell hbw e7 hb
        clear hbw
        have hbw := hbw6
        clear hbw6
        replace TO := Lib.hid (TO.out.next hb)
        replace HG5 := Lib.hid (HG5.out.next hb)
        replace TW := Lib.hid (TW.out.next eh_steady hb)
        clear hb hr8 hn8 hc8 HC
        clear e0 e1 e2 e3 e4 e5 e6 e7 hbw
        have HBL := Lib.hid HN.out
        clear HBL
        go_wp2
        go_roundw
        case rel => exact ⟨k + 1, out, b, kp, A5, n5, c5, _, _, rfl, rfl, rfl, by omega, by go_num, TO.out, ⟨HFO.out.1, by have := HFO.out.2; omega⟩, TW.out, by have := HLBK.out; omega, HN.out⟩
        case measure => simp [intOf] <;> omega
      | true =>
        rw [hfb] at HC
        by_cases hlat : t < firstAtS g use out x.spec t u
        · have dgt : decide (t < ft) = true := by rw [← hft]; exact decide_eq_true hlat
          obtain ⟨AK, ck, hkv, hk1, hk2⟩ := (TW.out.on2 eh_steady).form
          subst hkv
          clear hk1 hk2
          by_cases hkl : kp.length = 1
          · have hfull : fullP 2 d kp = true := by unfold fullP; rw [decide_eq_true ⟨rfl, hkl⟩]; simp
            have HN : Hid (pickR g use t u 2 d l [] [] ws = pickR g use t u 2 d out b kp (ws.drop (k + 1))) := Lib.hid (by rw [HPL0.out, pickR_full hfb hlat (by decide) hfull])
            have dk : (kp.length == 1) = true := by simp [hkl]
            have dkz : ((kp.length : Int) == 1) = true := by simp; omega
            clear hfb hlat hft hfl hfull hkl
            go_wp2_with fail
            refine HC.out.mono ?_
            rintro e w6 ⟨⟨A8, c8, rfl, hr8, hn8, hc8⟩, hb⟩
            have hbw6 := Nat.lt_of_lt_of_le hbw hb.size
            have e0 := keep_cell hbw e0 hb
            have e1 := keep_cell hbw e1 hb
            have e2 := keep_cell hbw e2 hb
            have e3 := keep_cell hbw e3 hb
            have e4 := keep_cell hbw e4 hb
            have e5 := keep_cell hbw e5 hb
            have e6 := keep_cell hbw e6 hb
            have e7 := keep_cell hbw e7 hb
            clear hbw
            have hbw := hbw6
            clear hbw6
            replace TO := Lib.hid (TO.out.next hb)
            replace HG5 := Lib.hid (HG5.out.next hb)
            replace TW := Lib.hid (TW.out.next eh_steady hb)
            clear hb hr8 hn8 hc8 HC
            clear e0 e1 e2 e3 e4 e5 e6 e7 hbw
            have HBL := Lib.hid HN.out
            clear HBL
            go_wp2
            go_roundw
            case rel => exact ⟨k + 1, out, b, kp, A5, n5, c5, _, _, rfl, rfl, rfl, by omega, by go_num, TO.out, ⟨HFO.out.1, by have := HFO.out.2; omega⟩, TW.out, by have := HLBK.out; omega, HN.out⟩
            case measure => simp [intOf] <;> omega
          · have hfull : fullP 2 d kp = false := by unfold fullP; rw [decide_eq_false (fun h => hkl h.2), decide_eq_false (by simp)]; rfl
            have dk : (kp.length == 1) = false := by simp [hkl]
            have dkz : ((kp.length : Int) == 1) = false := by simp; omega
            clear hkl
            obtain ⟨ee, hee⟩ : ∃ y, endsS x.spec ft = y := ⟨_, rfl⟩
            have hhw : heldW g use out x t u = ⟨x.id, fl, ft, ee⟩ := by unfold heldW; rw [hft, hfl, hee]
            have HFI : Hid (I64 ft ∧ I64 ee ∧ (∀ q ∈ fl, I64 q)) := Lib.hid (by
              rw [← hft, ← hfl, ← hee, ← hft]; exact first_int hfb)
            have HFL8 : Hid (fl.length ≤ 60) := Lib.hid (by rw [← hfl]; exact Nat.le_trans (first_short hfb) HGL.out)
            have HTI := Lib.hid HFI.out.1
            have HEE := Lib.hid hee
            have HNF : Hid (addE out ⟨x.id, fl, ft, ee⟩ = 0 → FewT (addT out ⟨x.id, fl, ft, ee⟩) ∧ (addT out ⟨x.id, fl, ft, ee⟩).length = out.length + 1) := Lib.hid (fun h => addT_fewS HFO.out.1 h (Nat.le_trans HFL8.out (by decide)) (by have := HFO.out.2; omega))
            obtain ⟨nt, hnt⟩ : ∃ y, addT out ⟨x.id, fl, ft, ee⟩ = y := ⟨_, rfl⟩
            obtain ⟨er, her⟩ : ∃ y, addE out ⟨x.id, fl, ft, ee⟩ = y := ⟨_, rfl⟩
            rw [hnt, her] at HNF
            have HADDP : Hid (∀ (A8 : Option Addr) (c8 : Nat) (W : World) (P : Nat → Prop), TAsk W A5 n5 c5 out → HAsk W A8 fl.length c8 ⟨x.id, fl, ft, ee⟩ → RN (EHp P) 4 W (Lt W.heap.size) A5 n5 out → RN EI 1 W (fun b => b < W.heap.size ∧ P b) A8 fl.length fl → er = 0 → Calls Tryz.prog 31 #[.slice A5 n5 c5, .agg #[.int .i64 x.id, .slice A8 fl.length c8, .int .i64 ft, .int .i64 ee]] W (TPPost P nt W)) := Lib.hid (fun A8 c8 W P h1 h2 h3 h4 h5 => by
              have := refAddP_any A5 n5 c5 out A8 fl.length c8 ⟨x.id, fl, ft, ee⟩ W h1 h2 h3 h4 (by rw [her]; exact h5)
              rw [hnt] at this
              exact this)
            have HADDE : Hid (∀ (A8 : Option Addr) (c8 : Nat) (W : World), TAsk W A5 n5 c5 out → HAsk W A8 fl.length c8 ⟨x.id, fl, ft, ee⟩ → Calls Tryz.prog 31 #[.slice A5 n5 c5, .agg #[.int .i64 x.id, .slice A8 fl.length c8, .int .i64 ft, .int .i64 ee]] W (TEPost nt er W)) := Lib.hid (fun A8 c8 W h1 h2 => by
              have := refAdd_any A5 n5 c5 out A8 fl.length c8 ⟨x.id, fl, ft, ee⟩ W h1 h2
              rw [hnt, her] at this
              exact this)
            have HENDW : Hid (∀ W : World, Glob W → Calls Tryz.prog 30 #[.agg #[.int .i64 x.spec.nodes, .int .i64 x.spec.cores, .int .i64 x.spec.gpus, .string x.spec.tag, .bool x.spec.whole, .int .i64 x.spec.long, .int .i64 x.spec.prio], .int .i64 ft] W fun e w' => e = .returned (.int .i64 ee) ∧ Below W.heap.size W w') := Lib.hid (fun W _ => refEnds_b HXS.out HTI.out HEE.out)
            have HERR : Hid (er ≠ 0 → pickR g use t u 2 d l [] [] ws = ([], [], er)) := Lib.hid (fun h => by rw [HPL0.out, pickR_errK hfb hlat (by decide) hfull (by rw [hhw, her]; exact h), hhw, her])
            have HADD2 : Hid (er = 0 → pickR g use t u 2 d l [] [] ws = pickR g use t u 2 d nt b (kp ++ [⟨x.id, fl, ft, ee⟩]) (ws.drop (k + 1))) := Lib.hid (fun h => by rw [HPL0.out, pickR_keep hfb hlat (by decide) hfull (by rw [hhw, her]; exact h), hhw, hnt])
            clear hhw hnt her hfb hlat hfull
            clear hft hfl hee
            go_wp2_with fail
            refine HC.out.mono ?_
            rintro e w6 ⟨⟨A8, c8, rfl, hr8, hn8, hc8⟩, hb⟩
            have hbw6 := Nat.lt_of_lt_of_le hbw hb.size
            have e0 := keep_cell hbw e0 hb
            have e1 := keep_cell hbw e1 hb
            have e2 := keep_cell hbw e2 hb
            have e3 := keep_cell hbw e3 hb
            have e4 := keep_cell hbw e4 hb
            have e5 := keep_cell hbw e5 hb
            have e6 := keep_cell hbw e6 hb
            have e7 := keep_cell hbw e7 hb
            clear hbw
            have hbw := hbw6
            clear hbw6
            replace TO := Lib.hid (TO.out.next hb)
            replace HG5 := Lib.hid (HG5.out.next hb)
            replace TW := Lib.hid (TW.out.next eh_steady hb)
            have RN8 := Lib.hid hr8
            have HHF0 : Hid ((A8 = none → c8 = 0) ∧ fl.length ≤ c8 ∧ fl.length ≤ maxLen ∧ (I64 x.id ∧ I64 ft ∧ I64 ee ∧ ∀ q ∈ fl, I64 q)) := Lib.hid ⟨hn8, hc8, Nat.le_trans HFL8.out (by decide), HXI.out, HFI.out.1, HFI.out.2.1, HFI.out.2.2⟩
            clear hb hr8 hn8 hc8 HC
            obtain ⟨m8, hm8⟩ : ∃ m8, fl.length = m8 := ⟨_, rfl⟩
            rw [hm8] at RN8 HHF0 HADDP HADDE ⊢
            have HHF := HHF0
            clear hm8 HHF0
            go_upto_region 13 with fail
            go_cut [25] (fun hv wx => ∃ hb : Nat, hv = .pointer (some ⟨hb, 0, none⟩) ∧ w6.heap.size ≤ hb ∧ BoxH wx hb ⟨x.id, fl, ft, ee⟩ A8 m8 c8 ∧ Below w6.heap.size w6 wx)
            case first =>
              have HKEEP : Hid (∀ wx, Below w6.drew.heap.size w6.drew wx → wx.cell? ⟨bw, offw + k * 8, none⟩ = some (.int .i64 x.id) ∧ wx.cell? ⟨bw, offw + k * 8 + 1, none⟩ = some (.int .i64 x.spec.nodes) ∧ wx.cell? ⟨bw, offw + k * 8 + 2, none⟩ = some (.int .i64 x.spec.cores) ∧ wx.cell? ⟨bw, offw + k * 8 + 3, none⟩ = some (.int .i64 x.spec.gpus) ∧ wx.cell? ⟨bw, offw + k * 8 + 4, none⟩ = some (.string x.spec.tag) ∧ wx.cell? ⟨bw, offw + k * 8 + 5, none⟩ = some (.bool x.spec.whole) ∧ wx.cell? ⟨bw, offw + k * 8 + 6, none⟩ = some (.int .i64 x.spec.long) ∧ wx.cell? ⟨bw, offw + k * 8 + 7, none⟩ = some (.int .i64 x.spec.prio)) := Lib.hid (fun wx hz' => by
                have hz := (bel_drew1 w6).trans (hz'.mono (bel_drew1 w6).size)
                exact ⟨keep_cell hbw e0 hz, keep_cell hbw e1 hz, keep_cell hbw e2 hz, keep_cell hbw e3 hz, keep_cell hbw e4 hz, keep_cell hbw e5 hz, keep_cell hbw e6 hz, keep_cell hbw e7 hz⟩)
              have HD0 := Lib.hid (bel_drew1 w6)
              have HBB : Hid (Below w6.drew.heap.size w6.drew (w6.alloc (.cells #[.int .i64 0, .slice none 0 0, .int .i64 0, .int .i64 0] 41)).drew) := Lib.hid ((Below.refl w6.drew.heap.size w6.drew).alloc (Nat.le_refl _) (.cells #[.int .i64 0, .slice none 0 0, .int .i64 0, .int .i64 0] 41))
              have BZ : Hid (BoxH (w6.alloc (.cells #[.int .i64 0, .slice none 0 0, .int .i64 0, .int .i64 0] 41)).drew w6.heap.size hd0 none 0 0) := Lib.hid ((boxH_new w6 hd0 none 0 0).next (bel_drew1 _))
              have HG1 := Lib.hid (HG5.out.next HD0.out)
              have HG2 := Lib.hid (HG1.out.next HBB.out)
              have HGE : w6.drew.heap.size ≤ w6.heap.size := Nat.le_refl _
              have S1 := Lib.hid (HKEEP.out _ (Below.refl _ _))
              have S2 := Lib.hid (HKEEP.out _ HBB.out)
              go_region_held3 (fun w' => w'.cell? ⟨bw, offw + k * 8, none⟩ = some (.int .i64 x.id) ∧ w'.cell? ⟨bw, offw + k * 8 + 1, none⟩ = some (.int .i64 x.spec.nodes) ∧ w'.cell? ⟨bw, offw + k * 8 + 2, none⟩ = some (.int .i64 x.spec.cores) ∧ w'.cell? ⟨bw, offw + k * 8 + 3, none⟩ = some (.int .i64 x.spec.gpus) ∧ w'.cell? ⟨bw, offw + k * 8 + 4, none⟩ = some (.string x.spec.tag) ∧ w'.cell? ⟨bw, offw + k * 8 + 5, none⟩ = some (.bool x.spec.whole) ∧ w'.cell? ⟨bw, offw + k * 8 + 6, none⟩ = some (.int .i64 x.spec.long) ∧ w'.cell? ⟨bw, offw + k * 8 + 7, none⟩ = some (.int .i64 x.spec.prio))
                (first | with_reducible exact S1.out | with_reducible exact S2.out | with_reducible exact S3.out | with_reducible exact S4.out | with_reducible exact S5.out | with_reducible exact S6.out | fail)
                (first | (go_at_call 30; (with_reducible refine (HENDW.out _ HG1.out).mono ?_); rintro e w7 ⟨rfl, hb⟩; have HY := Lib.hid hb; have S3 := Lib.hid (HKEEP.out _ HY.out); have S6 := Lib.hid (HKEEP.out _ (HY.out.alloc HY.out.size (.cells #[.int .i64 0, .slice none 0 0, .int .i64 0, .int .i64 0] 41))); have S4 := Lib.hid (HKEEP.out _ (HY.out.alloc HY.out.size (.cells #[.int .i64 x.id, .slice A8 m8 c8, .int .i64 ft, .int .i64 ee] 41))); clear hb) | (go_at_call 30; (with_reducible refine (HENDW.out _ HG2.out).mono ?_); rintro e w7 ⟨rfl, hb⟩; have HY := Lib.hid (HBB.out.trans (hb.mono HBB.out.size)); have S3 := Lib.hid (HKEEP.out _ HY.out); have S5 := Lib.hid (HKEEP.out _ (below_store4 (v0 := .int .i64 x.id) (v1 := .slice A8 m8 c8) (v2 := .int .i64 ft) (v3 := .int .i64 ee) HY.out HGE)); have BZ := Lib.hid (BZ.out.next hb); have p0 := BZ.out.c0; have p1 := BZ.out.c1; have p2 := BZ.out.c2; have p3 := BZ.out.c3; have y0 := BZ.out.frozen 0; have y1 := BZ.out.frozen 1; have y2 := BZ.out.frozen 2; have y3 := BZ.out.frozen 3; clear hb) | fail)
              · have HBX := Lib.hid (boxH_new w7 ⟨x.id, fl, ft, ee⟩ A8 m8 c8)
                have HBW := Lib.hid (HD0.out.trans ((HY.out.alloc HY.out.size (.cells #[.int .i64 x.id, .slice A8 m8 c8, .int .i64 ft, .int .i64 ee] 41)).mono HD0.out.size))
                have HSZ := Lib.hid (Nat.le_trans HD0.out.size HY.out.size)
                go_wp2
                go_meet
                exact ⟨_, rfl, HSZ.out, HBX.out, HBW.out⟩
              · have HBX := Lib.hid (BZ.out.storeP4 ⟨x.id, fl, ft, ee⟩ A8 m8 c8)
                have HBW := Lib.hid (HD0.out.trans ((below_store4 (v0 := .int .i64 x.id) (v1 := .slice A8 m8 c8) (v2 := .int .i64 ft) (v3 := .int .i64 ee) HY.out HGE).mono HD0.out.size))
                go_wp2
                go_meet
                exact ⟨_, rfl, Nat.le_refl _, HBX.out, HBW.out⟩
            case rest =>
              obtain ⟨hb, rfl, hbge, hbox, hbel⟩ := hcut
              have HBX := Lib.hid hbox
              replace HG5 := Lib.hid (HG5.out.next hbel)
              replace TO := Lib.hid (TO.out.next hbel)
              replace RN8 := Lib.hid (RN8.out.next hbel)
              replace TW := Lib.hid (TW.out.next eh_steady hbel)
              clear hbox hbge hbel
              have HH8 : Hid (HAsk wc A8 m8 c8 ⟨x.id, fl, ft, ee⟩) := Lib.hid ⟨RN8.out.ri, HHF.out.1, HHF.out.2.1, HHF.out.2.2.1, HHF.out.2.2.2⟩
              have HTA := Lib.hid TO.out.ask
              have HOWB : Hid ((∀ b, bv.ownBlock = some b → b < wc.heap.size) ∧ (∀ b, (Value.slice AK kp.length ck).ownBlock = some b → b < wc.heap.size)) := Lib.hid ⟨fun b h => (TW.out.one.own b h).2, fun b h => (TW.out.two.own b h).2⟩
              have HPL := Lib.hid (tabo_p TO.out)
              have HPH : Hid (RN EI 1 wc (fun b => b < wc.heap.size ∧ bv.ownBlock ≠ some b ∧ (Value.slice AK kp.length ck).ownBlock ≠ some b) A8 m8 fl) := Lib.hid (rin_p RN8.out HOW.out.1 HOW.out.2)
              have q0 := HBX.out.c0
              have q1 := HBX.out.c1
              have q2 := HBX.out.c2
              have q3 := HBX.out.c3
              by_cases h0 : er = 0
              · have d0 : (er != 0) = false := by rw [h0]; rfl
                have d00 : ((0 : Int) != 0) = false := rfl
                have HNX := Lib.hid (HADD2.out h0)
                have HNL := Lib.hid (HNF.out h0)
                have HADDm := Lib.hid (HADDP.out A8 c8 wc (fun b => bv.ownBlock ≠ some b ∧ (Value.slice AK kp.length ck).ownBlock ≠ some b) HTA.out HH8.out HPL.out HPH.out h0)
                clear h0
                go_wp2_with fail
                refine HADDm.out.mono ?_
                rintro e w9 ⟨v9, rfl, hon⟩
                have hb9 := hon.below
                obtain ⟨A9, c9, rfl, hto9⟩ := tabo_add (v1 := bv) (v2 := Value.slice AK kp.length ck) hon HOWB.out.1 HOWB.out.2 (fun b hb hp => ⟨hb, hp⟩) (by have := HNL.out.2; have := HFO.out.2; unfold maxLen; omega)
                have TO9 := Lib.hid hto9
                clear hon hto9 q0 q1 q2 q3
                replace HBX := Lib.hid (HBX.out.next hb9)
                replace RN8 := Lib.hid (RN8.out.next hb9)
                replace TW := Lib.hid (TW.out.next eh_steady hb9)
                clear hb9
                have q0 := HBX.out.c0
                have q1 := HBX.out.c1
                have q2 := HBX.out.c2
                have q3 := HBX.out.c3
                have HEO : Hid (EH w9 (Off2 w9 bv (Value.slice AK kp.length ck)) ⟨x.id, fl, ft, ee⟩ [.int .i64 x.id, .slice A8 m8 c8, .int .i64 ft, .int .i64 ee]) := Lib.hid (el_off RN8.out HOW.out.1 HOW.out.2 HHF.out.1 HHF.out.2.1 HHF.out.2.2.1 HHF.out.2.2.2)
                have HSO : Hid (kp.length + 1 ≤ maxLen ∧ (kp.length + 1) * 48 ≤ 140737488355328) := Lib.hid (by have := HLBK.out; unfold maxLen; omega)
                go_wp2_with (at_builtin; refine wpList_append_two2 rfl (.tmp 126) (.tmp 128) 24 rfl eh_steady TW.out i0 (.agg #[.int .i64 0, .slice none 0 0, .int .i64 0, .int .i64 0]) 48 Tryz.underlying24 hi0 hz0 hz1 hz2 rfl (by decide) rfl ⟨x.id, fl, ft, ee⟩ #[.int .i64 x.id, .slice A8 m8 c8, .int .i64 ft, .int .i64 ee] rfl rfl (by intro q hq; simp at hq; rcases hq with rfl | rfl | rfl | rfl <;> rfl) HEO.out HSO.out.1 HSO.out.2 ?_; intro v' w10 hTW hbs; refine Hid.out ?_)
                refine Lib.hid ?_
                have TW10 := Lib.hid hTW
                have TO10 := Lib.hid (TO9.out.beside hbs)
                have HLB2 : Hid ((b.length + (kp ++ [(⟨x.id, fl, ft, ee⟩ : Hd)]).length) ≤ k + 1) := Lib.hid (by have := HLBK.out; rw [List.length_append, List.length_singleton]; omega)
                clear hTW hbs q0 q1 q2 q3
                go_wp2
                go_roundw
                case rel => exact ⟨k + 1, nt, b, kp ++ [⟨x.id, fl, ft, ee⟩], A9, nt.length, c9, _, _, rfl, rfl, rfl, by omega, by go_num, TO10.out, ⟨HNL.out.1, by have := HNL.out.2; have := HFO.out.2; omega⟩, TW10.out, HLB2.out, HNX.out⟩
                case measure => simp [intOf] <;> omega
              · have d0 : (er != 0) = true := bne_iff_ne.2 h0
                have HX := Lib.hid (HPT.out _ _ _ (HERR.out h0))
                clear h0
                go_wp2_with fail
                refine (HADDE.out A8 c8 wc HTA.out HH8.out).mono ?_
                rintro e w9 ⟨⟨A9, c9, rfl, _, _, _⟩, hb9⟩
                have HBZ := Lib.hid (HB.out.trans ((TW.out.below.trans (hb9.mono TW.out.below.size)).mono HB.out.size))
                clear hb9 q0 q1 q2 q3
                go_wp2
                go_ret3
                rw [HX.out.1, HX.out.2.1, HX.out.2.2]
                exact ⟨⟨none, 0, none, 0, rfl, ⟨RT.nil, fun _ => rfl, Nat.le_refl _⟩, ⟨RT.nil, fun _ => rfl, Nat.le_refl _⟩⟩, HBZ.out⟩
        · have dgt : decide (t < ft) = false := by rw [← hft]; exact decide_eq_false hlat
          obtain ⟨ee, hee⟩ : ∃ y, endsS x.spec ft = y := ⟨_, rfl⟩
          have hhw : heldW g use out x t u = ⟨x.id, fl, ft, ee⟩ := by unfold heldW; rw [hft, hfl, hee]
          have HFI : Hid (I64 ft ∧ I64 ee ∧ (∀ q ∈ fl, I64 q)) := Lib.hid (by
            rw [← hft, ← hfl, ← hee, ← hft]; exact first_int hfb)
          have HFL8 : Hid (fl.length ≤ 60) := Lib.hid (by rw [← hfl]; exact Nat.le_trans (first_short hfb) HGL.out)
          have HTI := Lib.hid HFI.out.1
          have HEE := Lib.hid hee
          have HNF : Hid (addE out ⟨x.id, fl, ft, ee⟩ = 0 → FewT (addT out ⟨x.id, fl, ft, ee⟩) ∧ (addT out ⟨x.id, fl, ft, ee⟩).length = out.length + 1) := Lib.hid (fun h => addT_fewS HFO.out.1 h (Nat.le_trans HFL8.out (by decide)) (by have := HFO.out.2; omega))
          obtain ⟨nt, hnt⟩ : ∃ y, addT out ⟨x.id, fl, ft, ee⟩ = y := ⟨_, rfl⟩
          obtain ⟨er, her⟩ : ∃ y, addE out ⟨x.id, fl, ft, ee⟩ = y := ⟨_, rfl⟩
          rw [hnt, her] at HNF
          have HADDP : Hid (∀ (A8 : Option Addr) (c8 : Nat) (W : World) (P : Nat → Prop), TAsk W A5 n5 c5 out → HAsk W A8 fl.length c8 ⟨x.id, fl, ft, ee⟩ → RN (EHp P) 4 W (Lt W.heap.size) A5 n5 out → RN EI 1 W (fun b => b < W.heap.size ∧ P b) A8 fl.length fl → er = 0 → Calls Tryz.prog 31 #[.slice A5 n5 c5, .agg #[.int .i64 x.id, .slice A8 fl.length c8, .int .i64 ft, .int .i64 ee]] W (TPPost P nt W)) := Lib.hid (fun A8 c8 W P h1 h2 h3 h4 h5 => by
            have := refAddP_any A5 n5 c5 out A8 fl.length c8 ⟨x.id, fl, ft, ee⟩ W h1 h2 h3 h4 (by rw [her]; exact h5)
            rw [hnt] at this
            exact this)
          have HADDE : Hid (∀ (A8 : Option Addr) (c8 : Nat) (W : World), TAsk W A5 n5 c5 out → HAsk W A8 fl.length c8 ⟨x.id, fl, ft, ee⟩ → Calls Tryz.prog 31 #[.slice A5 n5 c5, .agg #[.int .i64 x.id, .slice A8 fl.length c8, .int .i64 ft, .int .i64 ee]] W (TEPost nt er W)) := Lib.hid (fun A8 c8 W h1 h2 => by
            have := refAdd_any A5 n5 c5 out A8 fl.length c8 ⟨x.id, fl, ft, ee⟩ W h1 h2
            rw [hnt, her] at this
            exact this)
          have HENDW : Hid (∀ W : World, Glob W → Calls Tryz.prog 30 #[.agg #[.int .i64 x.spec.nodes, .int .i64 x.spec.cores, .int .i64 x.spec.gpus, .string x.spec.tag, .bool x.spec.whole, .int .i64 x.spec.long, .int .i64 x.spec.prio], .int .i64 ft] W fun e w' => e = .returned (.int .i64 ee) ∧ Below W.heap.size W w') := Lib.hid (fun W _ => refEnds_b HXS.out HTI.out HEE.out)
          have HERR : Hid (er ≠ 0 → pickR g use t u 2 d l [] [] ws = ([], [], er)) := Lib.hid (fun h => by rw [HPL0.out, pickR_errB hfb hlat (by rw [hhw, her]; exact h), hhw, her])
          have HADD2 : Hid (er = 0 → pickR g use t u 2 d l [] [] ws = pickR g use t u 2 d nt (b ++ [⟨x.id, fl, ft, ee⟩]) kp (ws.drop (k + 1))) := Lib.hid (fun h => by rw [HPL0.out, pickR_beg hfb hlat (by rw [hhw, her]; exact h), hhw, hnt])
          clear hhw hnt her hfb hlat hft hfl hee
          go_wp2_with fail
          refine HC.out.mono ?_
          rintro e w6 ⟨⟨A8, c8, rfl, hr8, hn8, hc8⟩, hb⟩
          have hbw6 := Nat.lt_of_lt_of_le hbw hb.size
          have e0 := keep_cell hbw e0 hb
          have e1 := keep_cell hbw e1 hb
          have e2 := keep_cell hbw e2 hb
          have e3 := keep_cell hbw e3 hb
          have e4 := keep_cell hbw e4 hb
          have e5 := keep_cell hbw e5 hb
          have e6 := keep_cell hbw e6 hb
          have e7 := keep_cell hbw e7 hb
          clear hbw
          have hbw := hbw6
          clear hbw6
          replace TO := Lib.hid (TO.out.next hb)
          replace HG5 := Lib.hid (HG5.out.next hb)
          replace TW := Lib.hid (TW.out.next eh_steady hb)
          have RN8 := Lib.hid hr8
          have HHF0 : Hid ((A8 = none → c8 = 0) ∧ fl.length ≤ c8 ∧ fl.length ≤ maxLen ∧ (I64 x.id ∧ I64 ft ∧ I64 ee ∧ ∀ q ∈ fl, I64 q)) := Lib.hid ⟨hn8, hc8, Nat.le_trans HFL8.out (by decide), HXI.out, HFI.out.1, HFI.out.2.1, HFI.out.2.2⟩
          clear hb hr8 hn8 hc8 HC
          obtain ⟨m8, hm8⟩ : ∃ m8, fl.length = m8 := ⟨_, rfl⟩
          rw [hm8] at RN8 HHF0 HADDP HADDE ⊢
          have HHF := HHF0
          clear hm8 HHF0
          go_upto_region 13 with fail
          go_cut [25] (fun hv wx => ∃ hb : Nat, hv = .pointer (some ⟨hb, 0, none⟩) ∧ w6.heap.size ≤ hb ∧ BoxH wx hb ⟨x.id, fl, ft, ee⟩ A8 m8 c8 ∧ Below w6.heap.size w6 wx)
          case first =>
            have HKEEP : Hid (∀ wx, Below w6.drew.heap.size w6.drew wx → wx.cell? ⟨bw, offw + k * 8, none⟩ = some (.int .i64 x.id) ∧ wx.cell? ⟨bw, offw + k * 8 + 1, none⟩ = some (.int .i64 x.spec.nodes) ∧ wx.cell? ⟨bw, offw + k * 8 + 2, none⟩ = some (.int .i64 x.spec.cores) ∧ wx.cell? ⟨bw, offw + k * 8 + 3, none⟩ = some (.int .i64 x.spec.gpus) ∧ wx.cell? ⟨bw, offw + k * 8 + 4, none⟩ = some (.string x.spec.tag) ∧ wx.cell? ⟨bw, offw + k * 8 + 5, none⟩ = some (.bool x.spec.whole) ∧ wx.cell? ⟨bw, offw + k * 8 + 6, none⟩ = some (.int .i64 x.spec.long) ∧ wx.cell? ⟨bw, offw + k * 8 + 7, none⟩ = some (.int .i64 x.spec.prio)) := Lib.hid (fun wx hz' => by
              have hz := (bel_drew1 w6).trans (hz'.mono (bel_drew1 w6).size)
              exact ⟨keep_cell hbw e0 hz, keep_cell hbw e1 hz, keep_cell hbw e2 hz, keep_cell hbw e3 hz, keep_cell hbw e4 hz, keep_cell hbw e5 hz, keep_cell hbw e6 hz, keep_cell hbw e7 hz⟩)
            have HD0 := Lib.hid (bel_drew1 w6)
            have HBB : Hid (Below w6.drew.heap.size w6.drew (w6.alloc (.cells #[.int .i64 0, .slice none 0 0, .int .i64 0, .int .i64 0] 41)).drew) := Lib.hid ((Below.refl w6.drew.heap.size w6.drew).alloc (Nat.le_refl _) (.cells #[.int .i64 0, .slice none 0 0, .int .i64 0, .int .i64 0] 41))
            have BZ : Hid (BoxH (w6.alloc (.cells #[.int .i64 0, .slice none 0 0, .int .i64 0, .int .i64 0] 41)).drew w6.heap.size hd0 none 0 0) := Lib.hid ((boxH_new w6 hd0 none 0 0).next (bel_drew1 _))
            have HG1 := Lib.hid (HG5.out.next HD0.out)
            have HG2 := Lib.hid (HG1.out.next HBB.out)
            have HGE : w6.drew.heap.size ≤ w6.heap.size := Nat.le_refl _
            have S1 := Lib.hid (HKEEP.out _ (Below.refl _ _))
            have S2 := Lib.hid (HKEEP.out _ HBB.out)
            go_region_held3 (fun w' => w'.cell? ⟨bw, offw + k * 8, none⟩ = some (.int .i64 x.id) ∧ w'.cell? ⟨bw, offw + k * 8 + 1, none⟩ = some (.int .i64 x.spec.nodes) ∧ w'.cell? ⟨bw, offw + k * 8 + 2, none⟩ = some (.int .i64 x.spec.cores) ∧ w'.cell? ⟨bw, offw + k * 8 + 3, none⟩ = some (.int .i64 x.spec.gpus) ∧ w'.cell? ⟨bw, offw + k * 8 + 4, none⟩ = some (.string x.spec.tag) ∧ w'.cell? ⟨bw, offw + k * 8 + 5, none⟩ = some (.bool x.spec.whole) ∧ w'.cell? ⟨bw, offw + k * 8 + 6, none⟩ = some (.int .i64 x.spec.long) ∧ w'.cell? ⟨bw, offw + k * 8 + 7, none⟩ = some (.int .i64 x.spec.prio))
              (first | with_reducible exact S1.out | with_reducible exact S2.out | with_reducible exact S3.out | with_reducible exact S4.out | with_reducible exact S5.out | with_reducible exact S6.out | fail)
              (first | (go_at_call 30; (with_reducible refine (HENDW.out _ HG1.out).mono ?_); rintro e w7 ⟨rfl, hb⟩; have HY := Lib.hid hb; have S3 := Lib.hid (HKEEP.out _ HY.out); have S6 := Lib.hid (HKEEP.out _ (HY.out.alloc HY.out.size (.cells #[.int .i64 0, .slice none 0 0, .int .i64 0, .int .i64 0] 41))); have S4 := Lib.hid (HKEEP.out _ (HY.out.alloc HY.out.size (.cells #[.int .i64 x.id, .slice A8 m8 c8, .int .i64 ft, .int .i64 ee] 41))); clear hb) | (go_at_call 30; (with_reducible refine (HENDW.out _ HG2.out).mono ?_); rintro e w7 ⟨rfl, hb⟩; have HY := Lib.hid (HBB.out.trans (hb.mono HBB.out.size)); have S3 := Lib.hid (HKEEP.out _ HY.out); have S5 := Lib.hid (HKEEP.out _ (below_store4 (v0 := .int .i64 x.id) (v1 := .slice A8 m8 c8) (v2 := .int .i64 ft) (v3 := .int .i64 ee) HY.out HGE)); have BZ := Lib.hid (BZ.out.next hb); have p0 := BZ.out.c0; have p1 := BZ.out.c1; have p2 := BZ.out.c2; have p3 := BZ.out.c3; have y0 := BZ.out.frozen 0; have y1 := BZ.out.frozen 1; have y2 := BZ.out.frozen 2; have y3 := BZ.out.frozen 3; clear hb) | fail)
            · have HBX := Lib.hid (boxH_new w7 ⟨x.id, fl, ft, ee⟩ A8 m8 c8)
              have HBW := Lib.hid (HD0.out.trans ((HY.out.alloc HY.out.size (.cells #[.int .i64 x.id, .slice A8 m8 c8, .int .i64 ft, .int .i64 ee] 41)).mono HD0.out.size))
              have HSZ := Lib.hid (Nat.le_trans HD0.out.size HY.out.size)
              go_wp2
              go_meet
              exact ⟨_, rfl, HSZ.out, HBX.out, HBW.out⟩
            · have HBX := Lib.hid (BZ.out.storeP4 ⟨x.id, fl, ft, ee⟩ A8 m8 c8)
              have HBW := Lib.hid (HD0.out.trans ((below_store4 (v0 := .int .i64 x.id) (v1 := .slice A8 m8 c8) (v2 := .int .i64 ft) (v3 := .int .i64 ee) HY.out HGE).mono HD0.out.size))
              go_wp2
              go_meet
              exact ⟨_, rfl, Nat.le_refl _, HBX.out, HBW.out⟩
          case rest =>
            obtain ⟨hb, rfl, hbge, hbox, hbel⟩ := hcut
            have HBX := Lib.hid hbox
            replace HG5 := Lib.hid (HG5.out.next hbel)
            replace TO := Lib.hid (TO.out.next hbel)
            replace RN8 := Lib.hid (RN8.out.next hbel)
            replace TW := Lib.hid (TW.out.next eh_steady hbel)
            clear hbox hbge hbel
            have HH8 : Hid (HAsk wc A8 m8 c8 ⟨x.id, fl, ft, ee⟩) := Lib.hid ⟨RN8.out.ri, HHF.out.1, HHF.out.2.1, HHF.out.2.2.1, HHF.out.2.2.2⟩
            have HTA := Lib.hid TO.out.ask
            have HOWB : Hid ((∀ b, bv.ownBlock = some b → b < wc.heap.size) ∧ (∀ b, kv.ownBlock = some b → b < wc.heap.size)) := Lib.hid ⟨fun b h => (TW.out.one.own b h).2, fun b h => (TW.out.two.own b h).2⟩
            have HPL := Lib.hid (tabo_p TO.out)
            have HPH : Hid (RN EI 1 wc (fun b => b < wc.heap.size ∧ bv.ownBlock ≠ some b ∧ kv.ownBlock ≠ some b) A8 m8 fl) := Lib.hid (rin_p RN8.out HOW.out.1 HOW.out.2)
            have q0 := HBX.out.c0
            have q1 := HBX.out.c1
            have q2 := HBX.out.c2
            have q3 := HBX.out.c3
            by_cases h0 : er = 0
            · have d0 : (er != 0) = false := by rw [h0]; rfl
              have d00 : ((0 : Int) != 0) = false := rfl
              have HNX := Lib.hid (HADD2.out h0)
              have HNL := Lib.hid (HNF.out h0)
              have HADDm := Lib.hid (HADDP.out A8 c8 wc (fun b => bv.ownBlock ≠ some b ∧ kv.ownBlock ≠ some b) HTA.out HH8.out HPL.out HPH.out h0)
              clear h0
              go_wp2_with fail
              refine HADDm.out.mono ?_
              rintro e w9 ⟨v9, rfl, hon⟩
              have hb9 := hon.below
              obtain ⟨A9, c9, rfl, hto9⟩ := tabo_add (v1 := bv) (v2 := kv) hon HOWB.out.1 HOWB.out.2 (fun b hb hp => ⟨hb, hp⟩) (by have := HNL.out.2; have := HFO.out.2; unfold maxLen; omega)
              have TO9 := Lib.hid hto9
              clear hon hto9 q0 q1 q2 q3
              replace HBX := Lib.hid (HBX.out.next hb9)
              replace RN8 := Lib.hid (RN8.out.next hb9)
              replace TW := Lib.hid (TW.out.next eh_steady hb9)
              clear hb9
              have q0 := HBX.out.c0
              have q1 := HBX.out.c1
              have q2 := HBX.out.c2
              have q3 := HBX.out.c3
              have HEO : Hid (EH w9 (Off2 w9 bv kv) ⟨x.id, fl, ft, ee⟩ [.int .i64 x.id, .slice A8 m8 c8, .int .i64 ft, .int .i64 ee]) := Lib.hid (el_off RN8.out HOW.out.1 HOW.out.2 HHF.out.1 HHF.out.2.1 HHF.out.2.2.1 HHF.out.2.2.2)
              have HSO : Hid (b.length + 1 ≤ maxLen ∧ (b.length + 1) * 48 ≤ 140737488355328) := Lib.hid (by have := HLBK.out; unfold maxLen; omega)
              go_wp2_with (at_builtin; refine wpList_append_two1 rfl (.tmp 130) (.tmp 132) 24 rfl eh_steady TW.out i0 (.agg #[.int .i64 0, .slice none 0 0, .int .i64 0, .int .i64 0]) 48 Tryz.underlying24 hi0 hz0 hz1 hz2 rfl (by decide) rfl ⟨x.id, fl, ft, ee⟩ #[.int .i64 x.id, .slice A8 m8 c8, .int .i64 ft, .int .i64 ee] rfl rfl (by intro q hq; simp at hq; rcases hq with rfl | rfl | rfl | rfl <;> rfl) HEO.out HSO.out.1 HSO.out.2 ?_; intro v' w10 hTW hbs; refine Hid.out ?_)
              refine Lib.hid ?_
              have TW10 := Lib.hid hTW
              have TO10 := Lib.hid (TO9.out.beside hbs)
              have HLB2 : Hid (((b ++ [(⟨x.id, fl, ft, ee⟩ : Hd)]).length + kp.length) ≤ k + 1) := Lib.hid (by have := HLBK.out; rw [List.length_append, List.length_singleton]; omega)
              clear hTW hbs q0 q1 q2 q3
              go_wp2
              go_roundw
              case rel => exact ⟨k + 1, nt, b ++ [⟨x.id, fl, ft, ee⟩], kp, A9, nt.length, c9, _, _, rfl, rfl, rfl, by omega, by go_num, TO10.out, ⟨HNL.out.1, by have := HNL.out.2; have := HFO.out.2; omega⟩, TW10.out, HLB2.out, HNX.out⟩
              case measure => simp [intOf] <;> omega
            · have d0 : (er != 0) = true := bne_iff_ne.2 h0
              have HX := Lib.hid (HPT.out _ _ _ (HERR.out h0))
              clear h0
              go_wp2_with fail
              refine (HADDE.out A8 c8 wc HTA.out HH8.out).mono ?_
              rintro e w9 ⟨⟨A9, c9, rfl, _, _, _⟩, hb9⟩
              have HBZ := Lib.hid (HB.out.trans ((TW.out.below.trans (hb9.mono TW.out.below.size)).mono HB.out.size))
              clear hb9 q0 q1 q2 q3
              go_wp2
              go_ret3
              rw [HX.out.1, HX.out.2.1, HX.out.2.2]
              exact ⟨⟨none, 0, none, 0, rfl, ⟨RT.nil, fun _ => rfl, Nat.le_refl _⟩, ⟨RT.nil, fun _ => rfl, Nat.le_refl _⟩⟩, HBZ.out⟩
    · have HX : Hid (pa = b ∧ pk = kp ∧ pe = 0) := Lib.hid (by
        have h1 := HPL0.out
        rw [List.drop_of_length_le (by rw [HWL.out]; omega)] at h1
        exact HPT.out b kp 0 (by rw [h1, pickR]))
      have HO1 := Lib.hid (TW.out.on1 eh_steady)
      have HO2 := Lib.hid (TW.out.on2 eh_steady)
      obtain ⟨B1, d1, rfl, hB1, hB2⟩ := HO1.out.form
      obtain ⟨B2, d2, rfl, hB3, hB4⟩ := HO2.out.form
      have HR1 := Lib.hid (And.intro (HO1.out.reads eh_steady (by omega) rfl) (And.intro hB1 hB2))
      have HR2 := Lib.hid (And.intro (HO2.out.reads eh_steady (by omega) rfl) (And.intro hB3 hB4))
      have HBZ := Lib.hid (HB.out.trans (TW.out.below.mono HB.out.size))
      clear hB1 hB2 hB3 hB4
      go_wp2
      go_ret3
      rw [HX.out.1, HX.out.2.1, HX.out.2.2]
      exact ⟨⟨B1, d1, B2, d2, rfl, HR1.out, HR2.out⟩, HBZ.out⟩

end Go.Proofs.YtchogijdkagiiaaGreatDoor
