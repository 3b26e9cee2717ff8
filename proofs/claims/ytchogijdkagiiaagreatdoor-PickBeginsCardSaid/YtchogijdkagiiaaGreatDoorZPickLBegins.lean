/- PickBegins of layer 14, as a walk over the contracts. Written by gen/gen_pick.py. -/
import Derived.Deep.QuietTactic
import Derived.Deep.RegionHeld3
import Derived.LoopTactic
import Derived.Test.YtchogijdkagiiaaGreatDoorMg08
import Derived.Test.YtchogijdkagiiaaGreatDoorMg05
import Derived.Test.YtchogijdkagiiaaGreatDoorMg04
namespace Go.Proofs.YtchogijdkagiiaaGreatDoor
open Go.RowKit

set_option maxRecDepth 100000 in
set_option maxHeartbeats 8000000 in
theorem pickBegins_no (H : PickOk) (A : Option Addr) (n c : Nat) (_g : Gr) (A2 : Option Addr) (n2 c2 : Nat) (_use : List Int) (A3 : Option Addr) (n3 c3 : Nat) (l : Tb) (A4 : Option Addr) (n4 c4 : Nat) (t u vp vd : Int) (w : World) (hl : TAsk w A3 n3 c3 l) (hs : decide (SmallS n n2 n3 l n4) = false) (hG : Glob w) : Calls Tryz.prog 4 #[.slice A n c, .slice A2 n2 c2, .slice A3 n3 c3, .slice A4 n4 c4, .int .i64 t, .int .i64 u, .int .u8 vp, .int .u8 vd] w fun e w' => e = .returned (.bool true) ∧ Below w.heap.size w w' := by
  have HB := Lib.hid (Below.refl w.heap.size w)
  have HG := Lib.hid hG
  have TA := Lib.hid hl
  have HSM := Lib.hid hs
  clear hG hl hs
  go_enter Tryz.func4, Tryz.ntmps4
  go_wp2_with fail
  refine (awake14_any H _ HG.out).mono ?_
  rintro e w1 ⟨rfl, hb⟩
  replace HB := Lib.hid (HB.out.trans (hb.mono HB.out.size))
  replace HG := Lib.hid (HG.out.next hb)
  replace TA := Lib.hid (TA.out.next hb)
  clear hb
  go_wp2_with fail
  refine (smallP_b TA.out HSM.out).mono ?_
  rintro e w2 ⟨rfl, hb⟩
  replace HB := Lib.hid (HB.out.trans (hb.mono HB.out.size))
  replace HG := Lib.hid (HG.out.next hb)
  replace TA := Lib.hid (TA.out.next hb)
  clear hb
  go_wp2
  go_ret
  exact ⟨rfl, HB.out⟩
set_option maxRecDepth 100000 in
set_option maxHeartbeats 8000000 in
theorem pickBegins_yes (H : PickOk) (HD : HeldOk) (HSP : SpecOk) {A : Option Addr} {n c : Nat} {g : Gr} {A2 : Option Addr} {n2 c2 : Nat} {use : List Int} {A3 : Option Addr} {n3 c3 : Nat} {l : Tb} {A4 : Option Addr} {n4 c4 : Nat} {ws : List Wn} {t u vp vd pq dq : Int} {w : World} (hg : GAsk w A n c g) (hu : LAsk w A2 n2 c2 use) (hl : TAsk w A3 n3 c3 l) (hf : FewT l) (hw : WnAsk w A4 n4 c4 ws) (ht : I64 t) (hv : I64 u) (_hvp1 : 0 ≤ vp) (_hvp2 : vp < 256) (_hvd1 : 0 ≤ vd) (_hvd2 : vd < 256) (hpp : Int.tmod vp 3 = pq) (hp1 : 0 ≤ pq) (hp2 : pq ≤ 2) (hdd : Int.tmod vd 9 = dq) (hdd1 : 0 ≤ dq) (hdd2 : dq ≤ 8) (hsm : decide (SmallS n n2 n3 l n4) = true) (hG : Glob w) : Calls Tryz.prog 4 #[.slice A n c, .slice A2 n2 c2, .slice A3 n3 c3, .slice A4 n4 c4, .int .i64 t, .int .i64 u, .int .u8 vp, .int .u8 vd] w fun e w' => e = .returned (.bool true) ∧ Below w.heap.size w w' := by
  have HB := Lib.hid (Below.refl w.heap.size w)
  have HG := Lib.hid hG
  have GA := Lib.hid hg
  have UA := Lib.hid hu
  have TA := Lib.hid hl
  have WA := Lib.hid hw
  have HF := Lib.hid hf
  have HT := Lib.hid ht
  have HV := Lib.hid hv
  have HSM := Lib.hid hsm
  have hsp := of_decide_eq_true hsm
  unfold SmallS at hsp
  have HN60 : Hid (n ≤ 60) := Lib.hid (by omega)
  have HN61 : Hid (n3 + n4 ≤ 60) := Lib.hid (by omega)
  have hwl : ws.length ≤ 8 := by rw [hw.len]; omega
  have HWL := Lib.hid hw.len
  have HTL := Lib.hid hl.reads.len
  have HPI : Hid (I64 (pq + 1)) := Lib.hid (by unfold I64; omega)
  have HQI : Hid (I64 dq) := Lib.hid (by unfold I64; omega)
  obtain ⟨B, j3⟩ : ∃ x, (pickA g use l ws t u (pq + 1) dq).1 = x := ⟨_, rfl⟩
  obtain ⟨K, i3⟩ : ∃ x, (pickA g use l ws t u (pq + 1) dq).2.1 = x := ⟨_, rfl⟩
  obtain ⟨ea, g3⟩ : ∃ x, (pickA g use l ws t u (pq + 1) dq).2.2 = x := ⟨_, rfl⟩
  have P3 : Hid (pickA g use l ws t u (pq + 1) dq = (B, K, ea)) := Lib.hid (by rw [← j3, ← i3, ← g3])
  have L3 : Hid (B.length + K.length ≤ 8) := Lib.hid (by have := @pickA_len g use ws t u (pq + 1) dq l; rw [j3, i3] at this; omega)
  have M3 : Hid (B.length ≤ maxLen ∧ K.length ≤ maxLen) := Lib.hid (by have := L3.out; unfold maxLen; omega)
  have h48 : n4 ≤ 8 := by rw [← hw.len]; exact hwl
  have h312 : n3 ≤ 12 := by omega
  have HULM : Hid (n2 ≤ maxLen) := Lib.hid (Nat.le_trans hu.few (by decide))
  have HERR : Hid (ea ≠ 0 → B = [] ∧ K = []) := Lib.hid (fun h => by
    have h1 := pickA_err (g := g) (use := use) (l := l) (ws := ws) (now := t) (u := u) (policy := pq + 1) (depth := dq) (by rw [g3]; exact h)
    rw [j3, i3] at h1; exact h1)
  have HINV : Hid (ea = 0 → RightT l ∧ ∃ tab, PickInv g use ws t u (pq + 1) dq l tab B K) := Lib.hid (fun h => by
    have h1 := pickA_inv (g := g) (use := use) (l := l) (ws := ws) (now := t) (u := u) (policy := pq + 1) (depth := dq) (by rw [g3]; exact h)
    rw [j3, i3] at h1
    exact ⟨rightT_is.1 h1.1.2.2.2, h1.2⟩)
  have HTH : Hid (∀ y, y ∈ B ∨ y ∈ K → y.things.length ≤ 100) := Lib.hid (fun y hy => by
    have h1 := @pickA_things g use ws t u (pq + 1) dq l y (by rw [j3, i3]; exact hy)
    have h2 := hg.reads.1
    omega)
  clear hG hg hu hl hf hw ht hv hsm hsp hwl j3 i3 g3
  go_enter Tryz.func4, Tryz.ntmps4
  go_wp2_with fail
  refine (awake14_any H _ HG.out).mono ?_
  rintro e w1 ⟨rfl, hb⟩
  replace HB := Lib.hid (HB.out.trans (hb.mono HB.out.size))
  replace HG := Lib.hid (HG.out.next hb)
  replace GA := Lib.hid (GA.out.next hb)
  replace UA := Lib.hid (UA.out.next hb)
  replace TA := Lib.hid (TA.out.next hb)
  replace WA := Lib.hid (WA.out.next hb)
  clear hb
  go_wp2_with fail
  refine (smallP_b TA.out HSM.out).mono ?_
  rintro e w2 ⟨rfl, hb⟩
  replace HB := Lib.hid (HB.out.trans (hb.mono HB.out.size))
  replace HG := Lib.hid (HG.out.next hb)
  replace GA := Lib.hid (GA.out.next hb)
  replace UA := Lib.hid (UA.out.next hb)
  replace TA := Lib.hid (TA.out.next hb)
  replace WA := Lib.hid (WA.out.next hb)
  clear hb
  go_wp2_with fail
  refine (p14_pick H GA.out UA.out TA.out HF.out WA.out HN60.out HN61.out HT.out HV.out HPI.out HQI.out HG.out P3.out).mono ?_
  rintro e w3 ⟨⟨A31, c31, A32, c32, rfl, ⟨hr3, hn3, hc3⟩, ⟨kr3, kn3, kc3⟩⟩, hb⟩
  replace HB := Lib.hid (HB.out.trans (hb.mono HB.out.size))
  replace HG := Lib.hid (HG.out.next hb)
  replace GA := Lib.hid (GA.out.next hb)
  replace UA := Lib.hid (UA.out.next hb)
  replace TA := Lib.hid (TA.out.next hb)
  replace WA := Lib.hid (WA.out.next hb)
  clear hb
  have RA := Lib.hid (ans_ask hr3 hn3 hc3 M3.out.1)
  have RB := Lib.hid (ans_ask kr3 kn3 kc3 M3.out.2)
  clear hr3 hn3 hc3 kr3 kn3 kc3
  obtain ⟨mB, hmB⟩ : ∃ mB, B.length = mB := ⟨_, rfl⟩
  obtain ⟨mK, hmK⟩ : ∃ mK, K.length = mK := ⟨_, rfl⟩
  have HMB := Lib.hid hmB
  have HMK := Lib.hid hmK
  have hm8 : mB + mK ≤ 8 := by have := L3.out; omega
  rw [hmB] at RA ⊢
  rw [hmK] at RB ⊢
  clear hmB hmK
  by_cases h0 : ea = 0
  · have d0 : (ea != 0) = false := by rw [h0]; rfl
    obtain ⟨hrl, tab, hI⟩ := HINV.out h0
    have HALL : Hid ((allT (allT l B) K).length = n3 + mB + mK) := Lib.hid (by
      have h1 := inv_all hI hrl (by rw [HTL.out, HMB.out, HMK.out]; omega)
      rw [HTL.out, HMB.out, HMK.out] at h1; exact h1)
    have HBEG := Lib.hid hI.begs
    have HAPT : Hid (∀ y ∈ B, apartB y.things (busyT l t y.to) = true) := Lib.hid (fun y hy => beg_apart hI hrl hy)
    have HK0 : Hid (pq = 0 → mK = 0) := Lib.hid (fun h => by
      have h1 := hI.lim.1 (by omega)
      rw [← HMK.out, h1]; rfl)
    have HBT : Hid (∀ y ∈ B, y.things.length ≤ 100) := Lib.hid (fun y hy => HTH.out y (.inl hy))
    have HKT : Hid (∀ y ∈ K, y.things.length ≤ 100) := Lib.hid (fun y hy => HTH.out y (.inr hy))
    have HN100 : Hid (n3 + mB ≤ 100) := Lib.hid (by omega)
    clear hI hrl h0
    go_wp2_with fail
    refine (allP_any HD _ _ _ _ _ _ _ _ _ TA.out HF.out RA.out HBT.out HN100.out).mono ?_
    rintro e w4 ⟨⟨A7, n7, c7, rfl, hta, hfa, hla⟩, hb⟩
    replace HB := Lib.hid (HB.out.trans (hb.mono HB.out.size))
    replace HG := Lib.hid (HG.out.next hb)
    replace UA := Lib.hid (UA.out.next hb)
    replace TA := Lib.hid (TA.out.next hb)
    replace WA := Lib.hid (WA.out.next hb)
    replace RA := Lib.hid (RA.out.next hb)
    replace RB := Lib.hid (RB.out.next hb)
    clear hb
    have TB7 := Lib.hid hta
    have F7 := Lib.hid hfa
    have L7 : Hid (n7 ≤ n3 + mB) := Lib.hid (by rw [← TB7.out.reads.len]; exact hla)
    clear hta hfa hla
    go_wp2_with fail
    refine (allP_any HD _ _ _ _ _ _ _ _ _ TB7.out F7.out RB.out HKT.out (by have := L7.out; omega)).mono ?_
    rintro e w5 ⟨⟨A9, n9, c9, rfl, hta, hfa, hla⟩, hb⟩
    replace HB := Lib.hid (HB.out.trans (hb.mono HB.out.size))
    replace HG := Lib.hid (HG.out.next hb)
    replace UA := Lib.hid (UA.out.next hb)
    replace TA := Lib.hid (TA.out.next hb)
    replace WA := Lib.hid (WA.out.next hb)
    replace RA := Lib.hid (RA.out.next hb)
    replace RB := Lib.hid (RB.out.next hb)
    replace TB7 := Lib.hid (TB7.out.next hb)
    clear hb
    have hn9 : n9 = n3 + mB + mK := by
      rw [← hta.reads.len, HALL.out]
    subst hn9
    have dl1 : (((n3 + mB + mK : Nat) : Int) != (n3 : Int) + (mB : Int) + (mK : Int)) = false := by
      rw [bne_eq_false_iff_eq]; omega
    clear hta hfa hla TB7 F7 L7
    go_wp2
    go_loopw [20] (fun iv wx => ∃ i : Nat, i ≤ mB ∧ iv = .int .i64 i ∧ Below w5.heap.size w5 wx) (fun iv _ => mB - (intOf iv).toNat)
    case atStart => exact ⟨0, Nat.zero_le _, rfl, Below.refl _ _⟩
    case round =>
      obtain ⟨i, hi, rfl, hb⟩ := hrel
      have HBO := Lib.hid hb
      replace HG := Lib.hid (HG.out.next hb)
      replace UA := Lib.hid (UA.out.next hb)
      replace TA := Lib.hid (TA.out.next hb)
      replace WA := Lib.hid (WA.out.next hb)
      replace RA := Lib.hid (RA.out.next hb)
      replace RB := Lib.hid (RB.out.next hb)
      replace HB := Lib.hid (HB.out.trans (hb.mono HB.out.size))
      clear hb
      by_cases hlt : i < mB
      · obtain ⟨b6, off6, A6, m6, c6, hA6, hb6, f0, f1, f2, f3, hh⟩ := RA.out.reads.one hlt
        subst hA6
        obtain ⟨y, hy⟩ : ∃ y, B.getD i hd0 = y := ⟨_, rfl⟩
        have hyB : y ∈ B := by rw [← hy]; exact getD_in (by rw [HMB.out]; exact hlt)
        rw [hy] at f0 f2 f3 hh
        have HH := Lib.hid hh
        have HNS := Lib.hid (HBEG.out y hyB)
        have HPT := Lib.hid (HNS.out.2.part)
        have HAP0 := Lib.hid (HAPT.out y hyB)
        obtain ⟨bl, hbl⟩ : ∃ r, busyT l t y.to = r := ⟨_, rfl⟩
        have HBF : Hid (bl.length ≤ maxLen) := Lib.hid (by rw [← hbl]; exact Nat.le_trans (busy_len _ _ _) (by decide))
        have HBU := Lib.hid hbl
        have HAP : Hid (apartB y.things bl = true) := Lib.hid (by rw [← hbl]; exact HAP0.out)
        clear hy hyB hh hbl HAP0
        have hba : Below wr.heap.size wr (wr.alloc (.cells #[.int .i64 y.id, .slice A6 m6 c6, .int .i64 y.frm, .int .i64 y.to] 41)) := (Below.refl _ _).alloc (Nat.le_refl _) _
        have BX0 : Hid (BoxH (wr.alloc (.cells #[.int .i64 y.id, .slice A6 m6 c6, .int .i64 y.frm, .int .i64 y.to] 41)) wr.heap.size y A6 m6 c6) := Lib.hid (boxH_new wr y A6 m6 c6)
        obtain ⟨g6, hg6⟩ : ∃ g6, wr.heap.size = g6 := ⟨_, rfl⟩
        have BX := BX0
        clear BX0
        go_wp2_with fail
        replace HG := Lib.hid (HG.out.next hba)
        replace UA := Lib.hid (UA.out.next hba)
        replace TA := Lib.hid (TA.out.next hba)
        replace WA := Lib.hid (WA.out.next hba)
        replace RA := Lib.hid (RA.out.next hba)
        replace RB := Lib.hid (RB.out.next hba)
        replace HH := Lib.hid (HH.out.next hba)
        replace HB := Lib.hid (HB.out.trans (hba.mono HB.out.size))
        replace HBO := Lib.hid (HBO.out.trans (hba.mono HBO.out.size))
        clear hba f0 f1 f2 f3 hb6
        go_loopw [22, 23] (fun fv jv wi => ∃ (j : Nat) (fb : Bool), j ≤ n4 ∧ jv = .int .i64 j ∧ fv = .bool fb ∧ (fb = true ↔ ∃ q, q < j ∧ (ws.getD q wn0).id = y.id ∧ endsS (ws.getD q wn0).spec t = y.to) ∧ Below (wr.alloc (.cells #[.int .i64 y.id, .slice A6 m6 c6, .int .i64 y.frm, .int .i64 y.to] 41)).heap.size (wr.alloc (.cells #[.int .i64 y.id, .slice A6 m6 c6, .int .i64 y.frm, .int .i64 y.to] 41)) wi) (fun _ jv _ => n4 - (intOf jv).toNat)
        case atStart => exact ⟨0, false, Nat.zero_le _, rfl, rfl, ⟨fun h => (by cases h), fun ⟨q, hq, _⟩ => (by omega)⟩, Below.refl _ _⟩
        case round =>
          obtain ⟨j, fb, hj, rfl, rfl, hfb, hb⟩ := hrel
          have HFB := Lib.hid hfb
          have HBI := Lib.hid hb
          replace HG := Lib.hid (HG.out.next hb)
          replace UA := Lib.hid (UA.out.next hb)
          replace TA := Lib.hid (TA.out.next hb)
          replace WA := Lib.hid (WA.out.next hb)
          replace RA := Lib.hid (RA.out.next hb)
          replace RB := Lib.hid (RB.out.next hb)
          replace HH := Lib.hid (HH.out.next hb)
          replace BX := Lib.hid (BX.out.next hb)
          replace HB := Lib.hid (HB.out.trans (hb.mono HB.out.size))
          replace HBO := Lib.hid (HBO.out.trans (hb.mono HBO.out.size))
          rw [hg6] at BX
          clear hfb hb
          by_cases hjlt : j < n4
          · obtain ⟨bw, offw, hA4, hbw, ⟨e0, e1, e2, e3, e4, e5, e6, e7⟩, hxs, hxi⟩ := WA.out.one hjlt
            subst hA4
            obtain ⟨x, hx⟩ : ∃ x, ws.getD j wn0 = x := ⟨_, rfl⟩
            rw [hx] at e0 e1 e2 e3 e4 e5 e6 e7 hxs
            have HXJ := Lib.hid hx
            have HXS := Lib.hid hxs
            clear hx hxs hxi
            have HNE : Hid (∀ v : Bool, (v = true ↔ x.id = y.id ∧ endsS x.spec t = y.to) → ((fb || v) = true ↔ ∃ q, q < j + 1 ∧ (ws.getD q wn0).id = y.id ∧ endsS (ws.getD q wn0).spec t = y.to)) := Lib.hid (fun v hvv => by
              rw [Bool.or_eq_true, HFB.out, hvv]
              constructor
              · rintro (⟨q, h1, h2⟩ | h1)
                · exact ⟨q, by omega, h2⟩
                · exact ⟨j, Nat.lt_succ_self j, by rw [HXJ.out]; exact h1⟩
              · rintro ⟨q, h1, h2⟩
                by_cases hq : q = j
                · rw [hq, HXJ.out] at h2; exact .inr h2
                · exact .inl ⟨q, by omega, h2⟩)
            cases fb with
            | true =>
              have HN2 : Hid (∃ q, q < j + 1 ∧ (ws.getD q wn0).id = y.id ∧ endsS (ws.getD q wn0).spec t = y.to) := Lib.hid (by
                obtain ⟨q, h1, h2⟩ := HFB.out.1 rfl
                exact ⟨q, by omega, h2⟩)
              go_wp2_with fail
              refine wp_region_later (by kernel_rfl) (by kernel_rfl) ?_
              repeat (first | go_big_quiet_skip | (go_big_quiet_want; go_big_quiet_op; first | go_big_quiet_on | (apply Exists.intro; refine ⟨fun pz => ?_, ?_⟩; (fail); go_big_quiet_on)))
              refine wpQuiet_nil ?_
              intro _ hw'
              obtain ⟨pz, rfl⟩ := hw'
              obtain ⟨w11, hb⟩ := pz
              try dsimp only
              replace HBI := Lib.hid (HBI.out.trans (hb.mono HBI.out.size))
              clear hb
              clear e0 e1 e2 e3 e4 e5 e6 e7 hbw
              go_wp2_with fail
              go_roundw
              case rel => exact ⟨j + 1, true, by omega, by go_num, rfl, ⟨fun _ => HN2.out, fun _ => rfl⟩, HBI.out⟩
              case measure => simp [intOf] <;> omega
            | false =>
              by_cases p1 : x.id = y.id
              · have d1 : (x.id == y.id) = true := beq_iff_eq.2 p1
                obtain ⟨ee, hee⟩ : ∃ v, endsS x.spec t = v := ⟨_, rfl⟩
                have HEE := Lib.hid hee
                obtain ⟨vv, hvv⟩ : ∃ v, (ee == y.to) = v := ⟨_, rfl⟩
                have HN2 := Lib.hid (HNE.out vv (by rw [← hvv, beq_iff_eq, hee]; exact ⟨fun h => ⟨p1, h⟩, fun h => h.2⟩))
                rw [Bool.false_or] at HN2
                clear p1 hee
                go_wp2_with fail
                have zc0 : ∀ p : Later wr, p.now.cell? ⟨bw, offw + j * 8, none⟩ = some (.int .i64 x.id) := fun _ => Later.cell hbw e0
                have zc1 : ∀ p : Later wr, p.now.cell? ⟨bw, offw + j * 8 + 1, none⟩ = some (.int .i64 x.spec.nodes) := fun _ => Later.cell hbw e1
                have zc2 : ∀ p : Later wr, p.now.cell? ⟨bw, offw + j * 8 + 2, none⟩ = some (.int .i64 x.spec.cores) := fun _ => Later.cell hbw e2
                have zc3 : ∀ p : Later wr, p.now.cell? ⟨bw, offw + j * 8 + 3, none⟩ = some (.int .i64 x.spec.gpus) := fun _ => Later.cell hbw e3
                have zc4 : ∀ p : Later wr, p.now.cell? ⟨bw, offw + j * 8 + 4, none⟩ = some (.string x.spec.tag) := fun _ => Later.cell hbw e4
                have zc5 : ∀ p : Later wr, p.now.cell? ⟨bw, offw + j * 8 + 5, none⟩ = some (.bool x.spec.whole) := fun _ => Later.cell hbw e5
                have zc6 : ∀ p : Later wr, p.now.cell? ⟨bw, offw + j * 8 + 6, none⟩ = some (.int .i64 x.spec.long) := fun _ => Later.cell hbw e6
                have zc7 : ∀ p : Later wr, p.now.cell? ⟨bw, offw + j * 8 + 7, none⟩ = some (.int .i64 x.spec.prio) := fun _ => Later.cell hbw e7
                have zc8 : ∀ p : Later wr, p.now.cell? ⟨g6, 0, none⟩ = some (.int .i64 y.id) := fun _ => Later.cell BX.out.lt BX.out.c0
                have zc9 : ∀ p : Later wr, p.now.cell? ⟨g6, 3, none⟩ = some (.int .i64 y.to) := fun _ => Later.cell BX.out.lt BX.out.c3
                refine wp_region_later (by kernel_rfl) (by kernel_rfl) ?_
                repeat (first | go_big_quiet_skip | (go_big_quiet_want; go_big_quiet_op; first | go_big_quiet_on | (apply Exists.intro; refine ⟨fun pz => ?_, ?_⟩; (first | (go_at_call 18; exact Calls.later_of (s7_ends HSP HXS.out (HG.out.next pz.bel) HT.out HEE.out)) | fail); go_big_quiet_on)))
                refine wpQuiet_nil ?_
                intro _ hw'
                obtain ⟨pz, rfl⟩ := hw'
                obtain ⟨w11, hb⟩ := pz
                try dsimp only
                clear zc0 zc1 zc2 zc3 zc4 zc5 zc6 zc7 zc8 zc9
                replace HBI := Lib.hid (HBI.out.trans (hb.mono HBI.out.size))
                replace HG := Lib.hid (HG.out.next hb)
                clear hb
                clear e0 e1 e2 e3 e4 e5 e6 e7 hbw
                go_wp2_with fail
                go_roundw
                case rel => exact ⟨j + 1, vv, by omega, by go_num, rfl, HN2.out, HBI.out⟩
                case measure => simp [intOf] <;> omega
              · have d1 : (x.id == y.id) = false := beq_eq_false_iff_ne.2 p1
                have HN2 := Lib.hid (HNE.out false ⟨fun h => (by cases h), fun h => absurd h.1 p1⟩)
                rw [Bool.false_or] at HN2
                clear p1
                go_wp2_with fail
                have zc0 : ∀ p : Later wr, p.now.cell? ⟨bw, offw + j * 8, none⟩ = some (.int .i64 x.id) := fun _ => Later.cell hbw e0
                have zc1 : ∀ p : Later wr, p.now.cell? ⟨g6, 0, none⟩ = some (.int .i64 y.id) := fun _ => Later.cell BX.out.lt BX.out.c0
                refine wp_region_later (by kernel_rfl) (by kernel_rfl) ?_
                repeat (first | go_big_quiet_skip | (go_big_quiet_want; go_big_quiet_op; first | go_big_quiet_on | (apply Exists.intro; refine ⟨fun pz => ?_, ?_⟩; (fail); go_big_quiet_on)))
                refine wpQuiet_nil ?_
                intro _ hw'
                obtain ⟨pz, rfl⟩ := hw'
                obtain ⟨w11, hb⟩ := pz
                try dsimp only
                clear zc0 zc1
                replace HBI := Lib.hid (HBI.out.trans (hb.mono HBI.out.size))
                clear hb
                clear e0 e1 e2 e3 e4 e5 e6 e7 hbw
                go_wp2_with fail
                go_roundw
                case rel => exact ⟨j + 1, false, by omega, by go_num, rfl, HN2.out, HBI.out⟩
                case measure => simp [intOf] <;> omega
          · have hft : fb = true := by
              obtain ⟨q, h1, h2, h3⟩ := HNS.out.2.one
              rw [HNS.out.1] at h3
              exact HFB.out.2 ⟨q, by rw [HWL.out] at h1; omega, h2, h3⟩
            subst hft
            have d2 : decide (u < y.to) = false := decide_eq_false (by have := HNS.out.2.over; omega)
            have d3 : (y.frm != t) = false := by rw [HNS.out.1]; simp
            go_wp2_with fail
            have HKEEP : Hid (∀ wx, Below wr.drew.heap.size wr.drew wx → wx.cell? ⟨g6, 0, none⟩ = some (.int .i64 y.id) ∧ wx.cell? ⟨g6, 1, none⟩ = some (.slice A6 m6 c6) ∧ wx.cell? ⟨g6, 2, none⟩ = some (.int .i64 y.frm) ∧ wx.cell? ⟨g6, 3, none⟩ = some (.int .i64 y.to)) := Lib.hid (fun wx hz' => by
              have hz := (bel_drew1 wr).trans (hz'.mono (bel_drew1 wr).size)
              exact ⟨keep_cell BX.out.lt BX.out.c0 hz, keep_cell BX.out.lt BX.out.c1 hz, keep_cell BX.out.lt BX.out.c2 hz, keep_cell BX.out.lt BX.out.c3 hz⟩)
            have hd := bel_drew1 wr
            replace HB := Lib.hid (HB.out.trans (hd.mono HB.out.size))
            replace HBO := Lib.hid (HBO.out.trans (hd.mono HBO.out.size))
            replace HG := Lib.hid (HG.out.next hd)
            replace UA := Lib.hid (UA.out.next hd)
            replace TA := Lib.hid (TA.out.next hd)
            replace HH := Lib.hid (HH.out.next hd)
            clear hd
            have HY := Lib.hid (Below.refl wr.drew.heap.size wr.drew)
            go_region_held3 (fun w' => w'.cell? ⟨g6, 0, none⟩ = some (.int .i64 y.id) ∧ w'.cell? ⟨g6, 1, none⟩ = some (.slice A6 m6 c6) ∧ w'.cell? ⟨g6, 2, none⟩ = some (.int .i64 y.frm) ∧ w'.cell? ⟨g6, 3, none⟩ = some (.int .i64 y.to))
              (first | exact HKEEP.out _ (Below.refl _ _) | exact HKEEP.out _ HY.out | exact HKEEP.out _ (HY.out.alloc HY.out.size _) | go_keep | fail)
              (first | (go_at_call 19; (with_reducible refine (s_part HH.out.reads UA.out.reads HH.out.few HULM.out HPT.out).mono ?_); rintro e w21 ⟨rfl, hb⟩; have HY := Lib.hid (HY.out.trans (hb.mono HY.out.size)); have HB := Lib.hid (HB.out.trans (hb.mono HB.out.size)); have HBO := Lib.hid (HBO.out.trans (hb.mono HBO.out.size)); have HG := Lib.hid (HG.out.next hb); have UA := Lib.hid (UA.out.next hb); have TA := Lib.hid (TA.out.next hb); have HH := Lib.hid (HH.out.next hb); clear hb) | (go_at_call 21; (with_reducible refine (h10_busy HD TA.out HF.out HBU.out).mono ?_); rintro e w22 ⟨⟨A10, c10, rfl, hr10, _, _⟩, hb⟩; have HY := Lib.hid (HY.out.trans (hb.mono HY.out.size)); have HB := Lib.hid (HB.out.trans (hb.mono HB.out.size)); have HBO := Lib.hid (HBO.out.trans (hb.mono HBO.out.size)); have HG := Lib.hid (HG.out.next hb); have UA := Lib.hid (UA.out.next hb); have TA := Lib.hid (TA.out.next hb); have HH := Lib.hid (HH.out.next hb); have B10 := Lib.hid hr10; clear hb) | (go_at_call 20; (with_reducible refine (s_apart HH.out.reads B10.out HH.out.few HBF.out HAP.out).mono ?_); rintro e w23 ⟨rfl, hb⟩; have HY := Lib.hid (HY.out.trans (hb.mono HY.out.size)); have HB := Lib.hid (HB.out.trans (hb.mono HB.out.size)); have HBO := Lib.hid (HBO.out.trans (hb.mono HBO.out.size)); have HG := Lib.hid (HG.out.next hb); have UA := Lib.hid (UA.out.next hb); have TA := Lib.hid (TA.out.next hb); have HH := Lib.hid (HH.out.next hb); have B10 := Lib.hid (B10.out.next hb); clear hb) | fail)
            clear HKEEP HY
            go_wp2_with fail
            go_roundw
            case rel => exact ⟨i + 1, by omega, by go_num, HBO.out⟩
            case measure => simp [intOf] <;> omega
      · by_cases hp0 : 0 < pq
        · have dp : decide (0 < pq) = true := decide_eq_true hp0
          go_wp2
          go_ret
          exact ⟨rfl, HB.out⟩
        · have dp : decide (0 < pq) = false := decide_eq_false hp0
          have hk0 : mK = 0 := HK0.out (by omega)
          subst hk0
          go_wp2
          go_ret
          exact ⟨rfl, HB.out⟩
  · have d0 : (ea != 0) = true := bne_iff_ne.2 h0
    obtain ⟨hB, hK⟩ := HERR.out h0
    have hb0 : mB = 0 := by rw [← HMB.out, hB]; rfl
    have hk0 : mK = 0 := by rw [← HMK.out, hK]; rfl
    subst hb0 hk0
    clear h0 hB hK
    go_wp2
    go_ret
    exact ⟨rfl, HB.out⟩
theorem pickBegins_walk (H : PickOk) (HD : HeldOk) (HSP : SpecOk) (A : Option Addr) (n c : Nat) (g : Gr) (A2 : Option Addr) (n2 c2 : Nat) (use : List Int) (A3 : Option Addr) (n3 c3 : Nat) (l : Tb) (A4 : Option Addr) (n4 c4 : Nat) (ws : List Wn) (t u vp vd : Int) (w : World) (hr : RG w w.heap.size A n g) (hnil : A = none → c = 0) (hnc : n ≤ c) (_hn : n ≤ maxLen) (hr2 : RI w w.heap.size A2 n2 use) (hj2 : ∀ x ∈ use, I64 x) (hnil2 : A2 = none → c2 = 0) (hnc2 : n2 ≤ c2) (_hn2 : n2 ≤ maxLen) (hl : TAsk w A3 n3 c3 l) (hw : WnAsk w A4 n4 c4 ws) (ht : I64 t) (hv : I64 u) (hvp : 0 ≤ vp ∧ vp < 256) (hvd : 0 ≤ vd ∧ vd < 256) (hG : Glob w) : Calls Tryz.prog 4 #[.slice A n c, .slice A2 n2 c2, .slice A3 n3 c3, .slice A4 n4 c4, .int .i64 t, .int .i64 u, .int .u8 vp, .int .u8 vd] w fun e w' => e = .returned (.bool true) ∧ Below w.heap.size w w' := by
  cases hsm : decide (SmallS n n2 n3 l n4) with
  | false => exact pickBegins_no H A n c g A2 n2 c2 use A3 n3 c3 l A4 n4 c4 t u vp vd w hl hsm hG
  | true =>
    have h := of_decide_eq_true hsm
    unfold SmallS at h
    have hp3 : 0 ≤ Int.tmod vp 3 ∧ Int.tmod vp 3 ≤ 2 := by rw [Int.tmod_eq_emod_of_nonneg hvp.1]; omega
    have hd9 : 0 ≤ Int.tmod vd 9 ∧ Int.tmod vd 9 ≤ 8 := by rw [Int.tmod_eq_emod_of_nonneg hvd.1]; omega
    exact pickBegins_yes H HD HSP ⟨hr, hnil, hnc, by omega⟩ ⟨hr2, hnil2, hnc2, by omega, hj2⟩ hl (short_fewS h.2.2.2.1) hw ht hv hvp.1 hvp.2 hvd.1 hvd.2 rfl hp3.1 hp3.2 rfl hd9.1 hd9.2 hsm hG

end Go.Proofs.YtchogijdkagiiaaGreatDoor
