/- PickFirst of layer 14, as a walk over the contracts. Written by gen/gen_pick.py. -/
import Derived.Test.YtchogijdkagiiaaGreatDoorMg08
namespace Go.Proofs.YtchogijdkagiiaaGreatDoor
open Go.RowKit

set_option maxRecDepth 100000 in
set_option maxHeartbeats 8000000 in
theorem pickFirst_no (H : PickOk) (A : Option Addr) (n c : Nat) (_g : Gr) (A2 : Option Addr) (n2 c2 : Nat) (_use : List Int) (A3 : Option Addr) (n3 c3 : Nat) (l : Tb) (A4 : Option Addr) (n4 c4 : Nat) (t u v : Int) (w : World) (hl : TAsk w A3 n3 c3 l) (hs : decide (SmallS n n2 n3 l n4) = false) (hG : Glob w) : Calls Tryz.prog 8 #[.slice A n c, .slice A2 n2 c2, .slice A3 n3 c3, .slice A4 n4 c4, .int .i64 t, .int .i64 u, .int .u8 v] w fun e w' => e = .returned (.bool true) ∧ Below w.heap.size w w' := by
  have HB := Lib.hid (Below.refl w.heap.size w)
  have HG := Lib.hid hG
  have TA := Lib.hid hl
  have HSM := Lib.hid hs
  clear hG hl hs
  go_enter Tryz.func8, Tryz.ntmps8
  go_wp2_with fail
  refine (awake14_any H _ HG.out).mono ?_
  rintro e w1 ⟨rfl, hb⟩
  replace HB := Lib.hid (HB.out.trans (hb.mono HB.out.size))
  replace HG := Lib.hid (HG.out.next hb)
  replace TA := Lib.hid (TA.out.next hb)
  clear hb
  go_wp2_with fail
  refine (smallP_b TA.out HSM.out).mono ?_
  rintro e w2 ⟨rfl, hb⟩
  replace HB := Lib.hid (HB.out.trans (hb.mono HB.out.size))
  replace HG := Lib.hid (HG.out.next hb)
  replace TA := Lib.hid (TA.out.next hb)
  clear hb
  go_wp2
  go_ret
  exact ⟨rfl, HB.out⟩
set_option maxRecDepth 100000 in
set_option maxHeartbeats 8000000 in
theorem pickFirst_yes (H : PickOk) {A : Option Addr} {n c : Nat} {g : Gr} {A2 : Option Addr} {n2 c2 : Nat} {use : List Int} {A3 : Option Addr} {n3 c3 : Nat} {l : Tb} {A4 : Option Addr} {n4 c4 : Nat} {ws : List Wn} {t u v : Int} {w : World} (hg : GAsk w A n c g) (hu : LAsk w A2 n2 c2 use) (hl : TAsk w A3 n3 c3 l) (hf : FewT l) (hw : WnAsk w A4 n4 c4 ws) (ht : I64 t) (hv : I64 u) (hd : 0 ≤ v ∧ v < 256) (hsm : decide (SmallS n n2 n3 l n4) = true) (hG : Glob w) : Calls Tryz.prog 8 #[.slice A n c, .slice A2 n2 c2, .slice A3 n3 c3, .slice A4 n4 c4, .int .i64 t, .int .i64 u, .int .u8 v] w fun e w' => e = .returned (.bool true) ∧ Below w.heap.size w w' := by
  have HB := Lib.hid (Below.refl w.heap.size w)
  have HG := Lib.hid hG
  have GA := Lib.hid hg
  have UA := Lib.hid hu
  have TA := Lib.hid hl
  have WA := Lib.hid hw
  have HF := Lib.hid hf
  have HT := Lib.hid ht
  have HV := Lib.hid hv
  have HSM := Lib.hid hsm
  have hsp := of_decide_eq_true hsm
  unfold SmallS at hsp
  have HN60 : Hid (n ≤ 60) := Lib.hid (by omega)
  have HN61 : Hid (n3 + n4 ≤ 60) := Lib.hid (by omega)
  have hwl : ws.length ≤ 8 := by rw [hw.len]; omega
  obtain ⟨q, hq⟩ : ∃ q, Int.tmod v 9 = q := ⟨_, rfl⟩
  have hq0 : 0 ≤ q ∧ q ≤ 8 := by rw [← hq, Int.tmod_eq_emod_of_nonneg hd.1]; omega
  have HQ : Hid (I64 q) := Lib.hid (by unfold I64; omega)
  obtain ⟨a, j3⟩ : ∃ x, (pickA g use l ws t u 1 0).1 = x := ⟨_, rfl⟩
  obtain ⟨ka, i3⟩ : ∃ x, (pickA g use l ws t u 1 0).2.1 = x := ⟨_, rfl⟩
  obtain ⟨ea, g3⟩ : ∃ x, (pickA g use l ws t u 1 0).2.2 = x := ⟨_, rfl⟩
  have P3 : Hid (pickA g use l ws t u 1 0 = (a, ka, ea)) := Lib.hid (by rw [← j3, ← i3, ← g3])
  have L3 : Hid (a.length + ka.length ≤ 8) := Lib.hid (by have := @pickA_len g use ws t u 1 0 l; rw [j3, i3] at this; omega)
  have M3 : Hid (a.length ≤ maxLen ∧ ka.length ≤ maxLen) := Lib.hid (by have := L3.out; unfold maxLen; omega)
  obtain ⟨b, j4⟩ : ∃ x, (pickA g use l ws t u 2 0).1 = x := ⟨_, rfl⟩
  obtain ⟨kb, i4⟩ : ∃ x, (pickA g use l ws t u 2 0).2.1 = x := ⟨_, rfl⟩
  obtain ⟨eb, g4⟩ : ∃ x, (pickA g use l ws t u 2 0).2.2 = x := ⟨_, rfl⟩
  have P4 : Hid (pickA g use l ws t u 2 0 = (b, kb, eb)) := Lib.hid (by rw [← j4, ← i4, ← g4])
  have L4 : Hid (b.length + kb.length ≤ 8) := Lib.hid (by have := @pickA_len g use ws t u 2 0 l; rw [j4, i4] at this; omega)
  have M4 : Hid (b.length ≤ maxLen ∧ kb.length ≤ maxLen) := Lib.hid (by have := L4.out; unfold maxLen; omega)
  obtain ⟨cc, j5⟩ : ∃ x, (pickA g use l ws t u 3 q).1 = x := ⟨_, rfl⟩
  obtain ⟨kc, i5⟩ : ∃ x, (pickA g use l ws t u 3 q).2.1 = x := ⟨_, rfl⟩
  obtain ⟨ec, g5⟩ : ∃ x, (pickA g use l ws t u 3 q).2.2 = x := ⟨_, rfl⟩
  have P5 : Hid (pickA g use l ws t u 3 q = (cc, kc, ec)) := Lib.hid (by rw [← j5, ← i5, ← g5])
  have L5 : Hid (cc.length + kc.length ≤ 8) := Lib.hid (by have := @pickA_len g use ws t u 3 q l; rw [j5, i5] at this; omega)
  have M5 : Hid (cc.length ≤ maxLen ∧ kc.length ≤ maxLen) := Lib.hid (by have := L5.out; unfold maxLen; omega)
  have FX4 : Hid ((ea ≠ 0 → eb = ea) ∧ (ea = 0 → eb = 0 → ∃ m, b = a ++ m)) := Lib.hid (by
    have := @pick_fcfs g use ws t u 2 l 0 0 (by omega) (by omega) (by omega)
    rw [j3, j4, g3, g4] at this; exact this)
  have FX5 : Hid ((ea ≠ 0 → ec = ea) ∧ (ea = 0 → ec = 0 → ∃ m, cc = a ++ m)) := Lib.hid (by
    have := @pick_fcfs g use ws t u 3 l 0 q (by omega) (by omega) (by omega)
    rw [j3, j5, g3, g5] at this; exact this)
  obtain ⟨hd1, hd2⟩ := hd
  obtain ⟨hq1, hq2⟩ := hq0
  clear hG hg hu hl hf hw ht hv hsm hsp hwl j3 i3 g3 j4 i4 g4 j5 i5 g5
  go_enter Tryz.func8, Tryz.ntmps8
  go_wp2_with fail
  refine (awake14_any H _ HG.out).mono ?_
  rintro e w1 ⟨rfl, hb⟩
  replace HB := Lib.hid (HB.out.trans (hb.mono HB.out.size))
  replace HG := Lib.hid (HG.out.next hb)
  replace GA := Lib.hid (GA.out.next hb)
  replace UA := Lib.hid (UA.out.next hb)
  replace TA := Lib.hid (TA.out.next hb)
  replace WA := Lib.hid (WA.out.next hb)
  clear hb
  go_wp2_with fail
  refine (smallP_b TA.out HSM.out).mono ?_
  rintro e w2 ⟨rfl, hb⟩
  replace HB := Lib.hid (HB.out.trans (hb.mono HB.out.size))
  replace HG := Lib.hid (HG.out.next hb)
  replace GA := Lib.hid (GA.out.next hb)
  replace UA := Lib.hid (UA.out.next hb)
  replace TA := Lib.hid (TA.out.next hb)
  replace WA := Lib.hid (WA.out.next hb)
  clear hb
  go_wp2_with fail
  refine (p14_pick H GA.out UA.out TA.out HF.out WA.out HN60.out HN61.out HT.out HV.out (i64_of (by decide) (by decide)) (i64_of (by decide) (by decide)) HG.out P3.out).mono ?_
  rintro e w3 ⟨⟨A31, c31, A32, c32, rfl, ⟨hr3, hn3, hc3⟩, ⟨kr3, kn3, kc3⟩⟩, hb⟩
  replace HB := Lib.hid (HB.out.trans (hb.mono HB.out.size))
  replace HG := Lib.hid (HG.out.next hb)
  replace GA := Lib.hid (GA.out.next hb)
  replace UA := Lib.hid (UA.out.next hb)
  replace TA := Lib.hid (TA.out.next hb)
  replace WA := Lib.hid (WA.out.next hb)
  clear hb
  have RA := Lib.hid (ans_ask hr3 hn3 hc3 M3.out.1)
  clear hr3 hn3 hc3 kr3 kn3 kc3
  go_wp2_with fail
  refine (p14_pick H GA.out UA.out TA.out HF.out WA.out HN60.out HN61.out HT.out HV.out (i64_of (by decide) (by decide)) (i64_of (by decide) (by decide)) HG.out P4.out).mono ?_
  rintro e w4 ⟨⟨A41, c41, A42, c42, rfl, ⟨hr4, hn4, hc4⟩, ⟨kr4, kn4, kc4⟩⟩, hb⟩
  replace HB := Lib.hid (HB.out.trans (hb.mono HB.out.size))
  replace HG := Lib.hid (HG.out.next hb)
  replace GA := Lib.hid (GA.out.next hb)
  replace UA := Lib.hid (UA.out.next hb)
  replace TA := Lib.hid (TA.out.next hb)
  replace WA := Lib.hid (WA.out.next hb)
  replace RA := Lib.hid (RA.out.next hb)
  clear hb
  have RB := Lib.hid (ans_ask hr4 hn4 hc4 M4.out.1)
  clear hr4 hn4 hc4 kr4 kn4 kc4
  go_wp2_with fail
  refine (p14_pick H GA.out UA.out TA.out HF.out WA.out HN60.out HN61.out HT.out HV.out (i64_of (by decide) (by decide)) HQ.out HG.out P5.out).mono ?_
  rintro e w5 ⟨⟨A51, c51, A52, c52, rfl, ⟨hr5, hn5, hc5⟩, ⟨kr5, kn5, kc5⟩⟩, hb⟩
  replace HB := Lib.hid (HB.out.trans (hb.mono HB.out.size))
  replace HG := Lib.hid (HG.out.next hb)
  replace GA := Lib.hid (GA.out.next hb)
  replace UA := Lib.hid (UA.out.next hb)
  replace TA := Lib.hid (TA.out.next hb)
  replace WA := Lib.hid (WA.out.next hb)
  replace RA := Lib.hid (RA.out.next hb)
  replace RB := Lib.hid (RB.out.next hb)
  clear hb
  have RC := Lib.hid (ans_ask hr5 hn5 hc5 M5.out.1)
  clear hr5 hn5 hc5 kr5 kn5 kc5
  obtain ⟨na, za⟩ : ∃ z, a.length = z := ⟨_, rfl⟩
  have Za := Lib.hid za
  rw [za] at RA ⊢
  clear za
  obtain ⟨nb, zb⟩ : ∃ z, b.length = z := ⟨_, rfl⟩
  have Zb := Lib.hid zb
  rw [zb] at RB ⊢
  clear zb
  obtain ⟨nc, zc⟩ : ∃ z, cc.length = z := ⟨_, rfl⟩
  have Zc := Lib.hid zc
  rw [zc] at RC ⊢
  clear zc
  by_cases h0 : ea = 0
  · have d0 : (ea != 0) = false := by rw [h0]; rfl
    by_cases hx4 : eb = 0
    · have d4 : (eb == 0) = true := beq_iff_eq.2 hx4
      have RBE : Hid (b.take a.length = a ∧ a.length ≤ b.length) := Lib.hid (by
        obtain ⟨m, hm⟩ := FX4.out.2 h0 hx4
        rw [hm]
        exact ⟨by rw [List.take_append_of_le_length (Nat.le_refl _), List.take_length], by rw [List.length_append]; omega⟩)
      have hleb : na ≤ nb := by rw [← Za.out, ← Zb.out]; exact RBE.out.2
      have hczb : (na : Int) ≤ (c41 : Int) := by have := RB.out.cap; omega
      have hcnb : na ≤ c41 := by omega
      have dlb : decide (nb < na) = false := decide_eq_false (by omega)
      have dlzb : decide ((nb : Int) < (na : Int)) = false := decide_eq_false (by omega)
      have RBT : Hid (∀ W, TAsk W A41 nb c41 b → TAsk W A41 na c41 a) := Lib.hid (fun W h => ⟨by
        have h1 := RT.take h.reads hleb
        have h2 := RBE.out.1
        rw [Za.out] at h2
        rw [h2] at h1; exact h1, h.nil, hcnb, Nat.le_trans hleb h.few⟩)
      by_cases hx5 : ec = 0
      · have d5 : (ec != 0) = false := by rw [hx5]; rfl
        have RCE : Hid (cc.take a.length = a ∧ a.length ≤ cc.length) := Lib.hid (by
          obtain ⟨m, hm⟩ := FX5.out.2 h0 hx5
          rw [hm]
          exact ⟨by rw [List.take_append_of_le_length (Nat.le_refl _), List.take_length], by rw [List.length_append]; omega⟩)
        have hlec : na ≤ nc := by rw [← Za.out, ← Zc.out]; exact RCE.out.2
        have hczc : (na : Int) ≤ (c51 : Int) := by have := RC.out.cap; omega
        have hcnc : na ≤ c51 := by omega
        have dlc : decide (nc < na) = false := decide_eq_false (by omega)
        have dlzc : decide ((nc : Int) < (na : Int)) = false := decide_eq_false (by omega)
        have RCT : Hid (∀ W, TAsk W A51 nc c51 cc → TAsk W A51 na c51 a) := Lib.hid (fun W h => ⟨by
          have h1 := RT.take h.reads hlec
          have h2 := RCE.out.1
          rw [Za.out] at h2
          rw [h2] at h1; exact h1, h.nil, hcnc, Nat.le_trans hlec h.few⟩)
        clear h0 hx4 hx5
        go_wp2_with fail
        refine (sameT_b (RBT.out _ RB.out) RA.out (sameT_self _)).mono ?_
        rintro e w6 ⟨rfl, hb⟩
        replace HB := Lib.hid (HB.out.trans (hb.mono HB.out.size))
        replace RA := Lib.hid (RA.out.next hb)
        replace RC := Lib.hid (RC.out.next hb)
        clear hb
        go_wp2_with fail
        refine (sameT_b (RCT.out _ RC.out) RA.out (sameT_self _)).mono ?_
        rintro e w7 ⟨rfl, hb⟩
        replace HB := Lib.hid (HB.out.trans (hb.mono HB.out.size))
        clear hb
        go_wp2
        go_ret
        exact ⟨rfl, HB.out⟩
      · have d5 : (ec != 0) = true := bne_iff_ne.2 hx5
        clear h0 hx4 hx5
        go_wp2_with fail
        refine (sameT_b (RBT.out _ RB.out) RA.out (sameT_self _)).mono ?_
        rintro e w6 ⟨rfl, hb⟩
        replace HB := Lib.hid (HB.out.trans (hb.mono HB.out.size))
        clear hb
        go_wp2
        go_ret
        exact ⟨rfl, HB.out⟩
    · have d4 : (eb == 0) = false := beq_eq_false_iff_ne.2 hx4
      by_cases hx5 : ec = 0
      · have d5 : (ec != 0) = false := by rw [hx5]; rfl
        have RCE : Hid (cc.take a.length = a ∧ a.length ≤ cc.length) := Lib.hid (by
          obtain ⟨m, hm⟩ := FX5.out.2 h0 hx5
          rw [hm]
          exact ⟨by rw [List.take_append_of_le_length (Nat.le_refl _), List.take_length], by rw [List.length_append]; omega⟩)
        have hlec : na ≤ nc := by rw [← Za.out, ← Zc.out]; exact RCE.out.2
        have hczc : (na : Int) ≤ (c51 : Int) := by have := RC.out.cap; omega
        have hcnc : na ≤ c51 := by omega
        have dlc : decide (nc < na) = false := decide_eq_false (by omega)
        have dlzc : decide ((nc : Int) < (na : Int)) = false := decide_eq_false (by omega)
        have RCT : Hid (∀ W, TAsk W A51 nc c51 cc → TAsk W A51 na c51 a) := Lib.hid (fun W h => ⟨by
          have h1 := RT.take h.reads hlec
          have h2 := RCE.out.1
          rw [Za.out] at h2
          rw [h2] at h1; exact h1, h.nil, hcnc, Nat.le_trans hlec h.few⟩)
        clear h0 hx4 hx5
        go_wp2_with fail
        refine (sameT_b (RCT.out _ RC.out) RA.out (sameT_self _)).mono ?_
        rintro e w6 ⟨rfl, hb⟩
        replace HB := Lib.hid (HB.out.trans (hb.mono HB.out.size))
        clear hb
        go_wp2
        go_ret
        exact ⟨rfl, HB.out⟩
      · have d5 : (ec != 0) = true := bne_iff_ne.2 hx5
        clear h0 hx4 hx5
        go_wp2
        go_ret
        exact ⟨rfl, HB.out⟩
  · have d0 : (ea != 0) = true := bne_iff_ne.2 h0
    have d4 : (eb == ea) = true := beq_iff_eq.2 (FX4.out.1 h0)
    have d5 : (ec == ea) = true := beq_iff_eq.2 (FX5.out.1 h0)
    clear h0
    go_wp2
    go_ret
    exact ⟨rfl, HB.out⟩
theorem pickFirst_walk (H : PickOk) (A : Option Addr) (n c : Nat) (g : Gr) (A2 : Option Addr) (n2 c2 : Nat) (use : List Int) (A3 : Option Addr) (n3 c3 : Nat) (l : Tb) (A4 : Option Addr) (n4 c4 : Nat) (ws : List Wn) (t u v : Int) (w : World) (hr : RG w w.heap.size A n g) (hnil : A = none → c = 0) (hnc : n ≤ c) (_hn : n ≤ maxLen) (hr2 : RI w w.heap.size A2 n2 use) (hj2 : ∀ x ∈ use, I64 x) (hnil2 : A2 = none → c2 = 0) (hnc2 : n2 ≤ c2) (_hn2 : n2 ≤ maxLen) (hl : TAsk w A3 n3 c3 l) (hw : WnAsk w A4 n4 c4 ws) (ht : I64 t) (hv : I64 u) (hd : 0 ≤ v ∧ v < 256) (hG : Glob w) : Calls Tryz.prog 8 #[.slice A n c, .slice A2 n2 c2, .slice A3 n3 c3, .slice A4 n4 c4, .int .i64 t, .int .i64 u, .int .u8 v] w fun e w' => e = .returned (.bool true) ∧ Below w.heap.size w w' := by
  cases hsm : decide (SmallS n n2 n3 l n4) with
  | false => exact pickFirst_no H A n c g A2 n2 c2 use A3 n3 c3 l A4 n4 c4 t u v w hl hsm hG
  | true =>
    have h := of_decide_eq_true hsm
    unfold SmallS at h
    exact pickFirst_yes H ⟨hr, hnil, hnc, by omega⟩ ⟨hr2, hnil2, hnc2, by omega, hj2⟩ hl (short_fewS h.2.2.2.1) hw ht hv hd hsm hG

end Go.Proofs.YtchogijdkagiiaaGreatDoor
