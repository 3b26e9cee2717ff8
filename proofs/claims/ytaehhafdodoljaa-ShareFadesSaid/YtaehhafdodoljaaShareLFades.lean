/- The walk of the statement ShareFades of layer 15, over the program's contracts. Written by gen/gen_share.py. -/
import Derived.Test.YtaehhafdodoljaaShareAwake
import Derived.Deep.RegionHeld3
import Derived.Test.YtaehhafdodoljaaLater
import Derived.Test.YtaehhafdodoljaaShareLRight
namespace Go.Proofs.Ytaehhafdodoljaa
open Go.RowKit

set_option maxRecDepth 100000 in
set_option maxHeartbeats 8000000 in
theorem shareFades_walk (H : ShareOk) (x : Nat) (a b : Int) (A : Option Addr) (n c : Nat) (l : List Nat) (w : World) (hx : W64 x) (ha : 0 ≤ a ∧ a ≤ 255) (hb : 0 ≤ b ∧ b ≤ 255) (hl : FAsk w A n c l) :
    Calls Try.prog 6 #[.float .f64 x, .int .u8 a, .int .u8 b, .slice A n c] w fun e w' => e = .returned (.bool true) ∧ Below w.heap.size w w' := by
  have HB := Lib.hid (Below.refl w.heap.size w)
  have HX := Lib.hid hx
  obtain ⟨cx, hcx⟩ : ∃ cx, cleanF x = cx := ⟨_, rfl⟩
  have HCE := Lib.hid hcx
  have hcl : cx < 9218868437227405312 := by rw [← hcx]; exact cleanF_lt x
  have HCL : Hid (cx ≤ 9218868437227405312) := Lib.hid (Nat.le_of_lt hcl)
  have HCW : Hid (W64 cx) := Lib.hid (w64_le (Nat.le_of_lt hcl))
  have HCC : Hid (cleanF cx = cx) := Lib.hid (cleanF_self hcl)
  have HF0 : Hid (fadeV x 0 = cx) := Lib.hid (by rw [fadeV_none (by decide), hcx])
  have HF5 : Hid (fadeV x (-5) = cx) := Lib.hid (by rw [fadeV_none (by decide), hcx])
  obtain ⟨fa, hfa⟩ : ∃ fa, fadeV x a = fa := ⟨_, rfl⟩
  have HFA := Lib.hid hfa
  have HFW : Hid (W64 fa) := Lib.hid (by rw [← hfa]; exact w64_le (Nat.le_of_lt (fadeV_lt x a)))
  obtain ⟨fb, hfb⟩ : ∃ fb, fadeV fa b = fb := ⟨_, rfl⟩
  have HFB := Lib.hid hfb
  have HFC : Hid (fadeV x (a + b) = fb) := Lib.hid (by rw [← hfb, ← hfa, fadeV_twice ha.1 hb.1 (by omega)])
  have HA : Hid (I64 a) := Lib.hid (by unfold I64; omega)
  have HBI : Hid (I64 b) := Lib.hid (by unfold I64; omega)
  have HAB : Hid (I64 (a + b)) := Lib.hid (by unfold I64; omega)
  have hle : fa ≤ cx := by rw [← hfa, ← hcx]; exact fadeN_le _ _
  have g1 : (FloatKind.f64.format.order cx 0 == some Ordering.gt || FloatKind.f64.format.order cx 0 == some Ordering.eq) = true := by
    rw [fgr HCL.out (by decide), feq HCL.out (by decide)]
    by_cases h0 : cx = 0
    · simp [h0]
    · simp [h0]; omega
  have g2 : (FloatKind.f64.format.order cx 9218868437227405311 == some Ordering.lt || FloatKind.f64.format.order cx 9218868437227405311 == some Ordering.eq) = true := by
    rw [flt HCL.out (by decide), feq HCL.out (by decide)]
    by_cases h0 : cx = 9218868437227405311
    · simp [h0]
    · simp [h0]; omega
  have g3 : (FloatKind.f64.format.order fa cx == some Ordering.gt) = false := by
    rw [fgr (Nat.le_trans hle HCL.out) HCL.out]
    exact decide_eq_false (Nat.not_lt.2 hle)
  have hcap := hl.cap
  have ha1 := ha.1
  have ha2 := ha.2
  have hb1 := hb.1
  have hb2 := hb.2
  clear hx hcx hcl hfa hfb hle ha hb
  by_cases h2 : n ≤ 200
  · have LA := Lib.hid hl
    have HM2 : Hid (n ≤ 200) := Lib.hid h2
    clear hl
    obtain ⟨sm, hsm⟩ : ∃ sm, sumF l = sm := ⟨_, rfl⟩
    have HSM := Lib.hid hsm
    have HSL : Hid (sm < 9218868437227405312) := Lib.hid (by rw [← hsm]; exact sumF_lt l)
    have g4 : (FloatKind.f64.format.order sm 9218868437227405311 == some Ordering.lt || FloatKind.f64.format.order sm 9218868437227405311 == some Ordering.eq) = true := by
      have := HSL.out
      rw [flt (by omega) (by decide), feq (by omega) (by decide)]
      by_cases h0 : sm = 9218868437227405311
      · simp [h0]
      · simp [h0]; omega
    clear hsm
    go_enter Try.func6, Try.ntmps6
    go_wp2_with fail
    refine (shareAwake H w).mono ?_
    rintro e w1 ⟨rfl, hb⟩
    have HBq := Lib.hid (HB.out.trans (hb.mono HB.out.size))
    clear HB
    have HB := HBq
    clear HBq
    have LAq := Lib.hid (LA.out.next hb)
    clear LA
    have LA := LAq
    clear LAq
    clear hb
    go_wp2_with fail
    refine (H.clean x _ HX.out).mono ?_
    rintro e w2 ⟨rfl, hb⟩
    have HBq := Lib.hid (HB.out.trans (hb.mono HB.out.size))
    clear HB
    have HB := HBq
    clear HBq
    have LAq := Lib.hid (LA.out.next hb)
    clear LA
    have LA := LAq
    clear LAq
    clear hb
    rw [HCE.out]
    go_wp2_with fail
    refine (signbit_any cx _ HCL.out).mono ?_
    rintro e w3 ⟨rfl, hb⟩
    have HBq := Lib.hid (HB.out.trans (hb.mono HB.out.size))
    clear HB
    have HB := HBq
    clear HBq
    have LAq := Lib.hid (LA.out.next hb)
    clear LA
    have LA := LAq
    clear LAq
    clear hb
    go_wp2_with fail
    refine (s15_v (H.clean cx _ HCW.out) HCC.out).mono ?_
    rintro e w4 ⟨rfl, hb⟩
    have HBq := Lib.hid (HB.out.trans (hb.mono HB.out.size))
    clear HB
    have HB := HBq
    clear HBq
    have LAq := Lib.hid (LA.out.next hb)
    clear LA
    have LA := LAq
    clear LAq
    clear hb
    go_wp2_with fail
    refine (lawSame_self cx _).mono ?_
    rintro e w5 ⟨rfl, hb⟩
    have HBq := Lib.hid (HB.out.trans (hb.mono HB.out.size))
    clear HB
    have HB := HBq
    clear HBq
    have LAq := Lib.hid (LA.out.next hb)
    clear LA
    have LA := LAq
    clear LAq
    clear hb
    go_wp2_with fail
    refine (s15_v (H.fade x 0 _ HX.out (by unfold I64; decide)) HF0.out).mono ?_
    rintro e w6 ⟨rfl, hb⟩
    have HBq := Lib.hid (HB.out.trans (hb.mono HB.out.size))
    clear HB
    have HB := HBq
    clear HBq
    have LAq := Lib.hid (LA.out.next hb)
    clear LA
    have LA := LAq
    clear LAq
    clear hb
    go_wp2_with fail
    refine (lawSame_self cx _).mono ?_
    rintro e w7 ⟨rfl, hb⟩
    have HBq := Lib.hid (HB.out.trans (hb.mono HB.out.size))
    clear HB
    have HB := HBq
    clear HBq
    have LAq := Lib.hid (LA.out.next hb)
    clear LA
    have LA := LAq
    clear LAq
    clear hb
    go_wp2_with fail
    refine (s15_v (H.fade x (-5) _ HX.out (by unfold I64; decide)) HF5.out).mono ?_
    rintro e w8 ⟨rfl, hb⟩
    have HBq := Lib.hid (HB.out.trans (hb.mono HB.out.size))
    clear HB
    have HB := HBq
    clear HBq
    have LAq := Lib.hid (LA.out.next hb)
    clear LA
    have LA := LAq
    clear LAq
    clear hb
    go_wp2_with fail
    refine (lawSame_self cx _).mono ?_
    rintro e w9 ⟨rfl, hb⟩
    have HBq := Lib.hid (HB.out.trans (hb.mono HB.out.size))
    clear HB
    have HB := HBq
    clear HBq
    have LAq := Lib.hid (LA.out.next hb)
    clear LA
    have LA := LAq
    clear LAq
    clear hb
    go_wp2_with fail
    refine (s15_v (H.fade x a _ HX.out HA.out) HFA.out).mono ?_
    rintro e w10 ⟨rfl, hb⟩
    have HBq := Lib.hid (HB.out.trans (hb.mono HB.out.size))
    clear HB
    have HB := HBq
    clear HBq
    have LAq := Lib.hid (LA.out.next hb)
    clear LA
    have LA := LAq
    clear LAq
    clear hb
    go_wp2_with fail
    refine (s15_v (H.fade fa b _ HFW.out HBI.out) HFB.out).mono ?_
    rintro e w11 ⟨rfl, hb⟩
    have HBq := Lib.hid (HB.out.trans (hb.mono HB.out.size))
    clear HB
    have HB := HBq
    clear HBq
    have LAq := Lib.hid (LA.out.next hb)
    clear LA
    have LA := LAq
    clear LAq
    clear hb
    go_wp2_with fail
    refine (s15_v (H.fade x (a + b) _ HX.out HAB.out) HFC.out).mono ?_
    rintro e w12 ⟨rfl, hb⟩
    have HBq := Lib.hid (HB.out.trans (hb.mono HB.out.size))
    clear HB
    have HB := HBq
    clear HBq
    have LAq := Lib.hid (LA.out.next hb)
    clear LA
    have LA := LAq
    clear LAq
    clear hb
    go_wp2_with fail
    refine (lawSame_self fb _).mono ?_
    rintro e w13 ⟨rfl, hb⟩
    have HBq := Lib.hid (HB.out.trans (hb.mono HB.out.size))
    clear HB
    have HB := HBq
    clear HBq
    have LAq := Lib.hid (LA.out.next hb)
    clear LA
    have LA := LAq
    clear LAq
    clear hb
    go_wp2_with fail
    refine (s15_v (H.sum A n c l _ LA.out HM2.out) HSM.out).mono ?_
    rintro e w14 ⟨rfl, hb⟩
    have HBq := Lib.hid (HB.out.trans (hb.mono HB.out.size))
    clear HB
    have HB := HBq
    clear HBq
    have LAq := Lib.hid (LA.out.next hb)
    clear LA
    have LA := LAq
    clear LAq
    clear hb
    go_wp2
    go_loopw [12] (fun iv wr => ∃ (k : Nat), k ≤ n ∧ iv = .int .i64 k ∧ FAsk wr A n c l ∧ Below w.heap.size w wr) (fun iv _ => n - (intOf iv).toNat)
    case atStart => exact ⟨0, Nat.zero_le _, rfl, LA.out, HB.out⟩
    case round =>
      obtain ⟨k, hk, rfl, hla, hb⟩ := hrel
      have LB := Lib.hid hla
      have HBZ := Lib.hid hb
      clear hla hb
      by_cases hlt : k < n
      · obtain ⟨b1, off, hA, hbl, hc, hy⟩ := LB.out.one hlt
        subst hA
        have HMEM : Hid (l.getD k 0 ∈ l) := Lib.hid (by
          have hkl : k < l.length := by rw [LB.out.len]; exact hlt
          rw [List.getD, List.getElem?_eq_getElem hkl]
          exact List.getElem_mem hkl)
        obtain ⟨y, ey⟩ : ∃ y, l.getD k 0 = y := ⟨_, rfl⟩
        rw [ey] at hc hy HMEM
        have HY := Lib.hid hy
        have hgt : (FloatKind.f64.format.order (cleanF y) sm == some Ordering.gt) = false := by
          rw [fgr (Nat.le_of_lt (cleanF_lt y)) (Nat.le_of_lt HSL.out)]
          exact decide_eq_false (Nat.not_lt.2 (by rw [← HSM.out]; exact sumF_ge l y HMEM.out))
        clear hy ey
        go_wp2_with fail
        refine (H.clean y _ HY.out).mono ?_
        rintro e w20 ⟨rfl, hb⟩
        have LBq := Lib.hid (LB.out.next hb)
        clear LB
        have LB := LBq
        clear LBq
        have HBZq := Lib.hid (HBZ.out.trans (hb.mono HBZ.out.size))
        clear HBZ
        have HBZ := HBZq
        clear HBZq
        clear hb hc
        go_wp2
        go_roundw
        case rel => exact ⟨k + 1, by omega, by go_num, LB.out, HBZ.out⟩
        case measure => simp [intOf] <;> omega
      · go_wp2
        go_ret
        exact ⟨rfl, HBZ.out⟩

  · have LA := Lib.hid (hl.take (k := 200) (by omega))
    have HM2 : Hid (200 ≤ 200) := Lib.hid (Nat.le_refl _)
    obtain ⟨lm, hlm⟩ : ∃ lm, l.take 200 = lm := ⟨_, rfl⟩
    rw [hlm] at LA
    clear hl hlm
    obtain ⟨sm, hsm⟩ : ∃ sm, sumF lm = sm := ⟨_, rfl⟩
    have HSM := Lib.hid hsm
    have HSL : Hid (sm < 9218868437227405312) := Lib.hid (by rw [← hsm]; exact sumF_lt lm)
    have g4 : (FloatKind.f64.format.order sm 9218868437227405311 == some Ordering.lt || FloatKind.f64.format.order sm 9218868437227405311 == some Ordering.eq) = true := by
      have := HSL.out
      rw [flt (by omega) (by decide), feq (by omega) (by decide)]
      by_cases h0 : sm = 9218868437227405311
      · simp [h0]
      · simp [h0]; omega
    clear hsm
    go_enter Try.func6, Try.ntmps6
    go_wp2_with fail
    refine (shareAwake H w).mono ?_
    rintro e w1 ⟨rfl, hb⟩
    have HBq := Lib.hid (HB.out.trans (hb.mono HB.out.size))
    clear HB
    have HB := HBq
    clear HBq
    have LAq := Lib.hid (LA.out.next hb)
    clear LA
    have LA := LAq
    clear LAq
    clear hb
    go_wp2_with fail
    refine (H.clean x _ HX.out).mono ?_
    rintro e w2 ⟨rfl, hb⟩
    have HBq := Lib.hid (HB.out.trans (hb.mono HB.out.size))
    clear HB
    have HB := HBq
    clear HBq
    have LAq := Lib.hid (LA.out.next hb)
    clear LA
    have LA := LAq
    clear LAq
    clear hb
    rw [HCE.out]
    go_wp2_with fail
    refine (signbit_any cx _ HCL.out).mono ?_
    rintro e w3 ⟨rfl, hb⟩
    have HBq := Lib.hid (HB.out.trans (hb.mono HB.out.size))
    clear HB
    have HB := HBq
    clear HBq
    have LAq := Lib.hid (LA.out.next hb)
    clear LA
    have LA := LAq
    clear LAq
    clear hb
    go_wp2_with fail
    refine (s15_v (H.clean cx _ HCW.out) HCC.out).mono ?_
    rintro e w4 ⟨rfl, hb⟩
    have HBq := Lib.hid (HB.out.trans (hb.mono HB.out.size))
    clear HB
    have HB := HBq
    clear HBq
    have LAq := Lib.hid (LA.out.next hb)
    clear LA
    have LA := LAq
    clear LAq
    clear hb
    go_wp2_with fail
    refine (lawSame_self cx _).mono ?_
    rintro e w5 ⟨rfl, hb⟩
    have HBq := Lib.hid (HB.out.trans (hb.mono HB.out.size))
    clear HB
    have HB := HBq
    clear HBq
    have LAq := Lib.hid (LA.out.next hb)
    clear LA
    have LA := LAq
    clear LAq
    clear hb
    go_wp2_with fail
    refine (s15_v (H.fade x 0 _ HX.out (by unfold I64; decide)) HF0.out).mono ?_
    rintro e w6 ⟨rfl, hb⟩
    have HBq := Lib.hid (HB.out.trans (hb.mono HB.out.size))
    clear HB
    have HB := HBq
    clear HBq
    have LAq := Lib.hid (LA.out.next hb)
    clear LA
    have LA := LAq
    clear LAq
    clear hb
    go_wp2_with fail
    refine (lawSame_self cx _).mono ?_
    rintro e w7 ⟨rfl, hb⟩
    have HBq := Lib.hid (HB.out.trans (hb.mono HB.out.size))
    clear HB
    have HB := HBq
    clear HBq
    have LAq := Lib.hid (LA.out.next hb)
    clear LA
    have LA := LAq
    clear LAq
    clear hb
    go_wp2_with fail
    refine (s15_v (H.fade x (-5) _ HX.out (by unfold I64; decide)) HF5.out).mono ?_
    rintro e w8 ⟨rfl, hb⟩
    have HBq := Lib.hid (HB.out.trans (hb.mono HB.out.size))
    clear HB
    have HB := HBq
    clear HBq
    have LAq := Lib.hid (LA.out.next hb)
    clear LA
    have LA := LAq
    clear LAq
    clear hb
    go_wp2_with fail
    refine (lawSame_self cx _).mono ?_
    rintro e w9 ⟨rfl, hb⟩
    have HBq := Lib.hid (HB.out.trans (hb.mono HB.out.size))
    clear HB
    have HB := HBq
    clear HBq
    have LAq := Lib.hid (LA.out.next hb)
    clear LA
    have LA := LAq
    clear LAq
    clear hb
    go_wp2_with fail
    refine (s15_v (H.fade x a _ HX.out HA.out) HFA.out).mono ?_
    rintro e w10 ⟨rfl, hb⟩
    have HBq := Lib.hid (HB.out.trans (hb.mono HB.out.size))
    clear HB
    have HB := HBq
    clear HBq
    have LAq := Lib.hid (LA.out.next hb)
    clear LA
    have LA := LAq
    clear LAq
    clear hb
    go_wp2_with fail
    refine (s15_v (H.fade fa b _ HFW.out HBI.out) HFB.out).mono ?_
    rintro e w11 ⟨rfl, hb⟩
    have HBq := Lib.hid (HB.out.trans (hb.mono HB.out.size))
    clear HB
    have HB := HBq
    clear HBq
    have LAq := Lib.hid (LA.out.next hb)
    clear LA
    have LA := LAq
    clear LAq
    clear hb
    go_wp2_with fail
    refine (s15_v (H.fade x (a + b) _ HX.out HAB.out) HFC.out).mono ?_
    rintro e w12 ⟨rfl, hb⟩
    have HBq := Lib.hid (HB.out.trans (hb.mono HB.out.size))
    clear HB
    have HB := HBq
    clear HBq
    have LAq := Lib.hid (LA.out.next hb)
    clear LA
    have LA := LAq
    clear LAq
    clear hb
    go_wp2_with fail
    refine (lawSame_self fb _).mono ?_
    rintro e w13 ⟨rfl, hb⟩
    have HBq := Lib.hid (HB.out.trans (hb.mono HB.out.size))
    clear HB
    have HB := HBq
    clear HBq
    have LAq := Lib.hid (LA.out.next hb)
    clear LA
    have LA := LAq
    clear LAq
    clear hb
    go_wp2_with fail
    refine (s15_v (H.sum A 200 c lm _ LA.out HM2.out) HSM.out).mono ?_
    rintro e w14 ⟨rfl, hb⟩
    have HBq := Lib.hid (HB.out.trans (hb.mono HB.out.size))
    clear HB
    have HB := HBq
    clear HBq
    have LAq := Lib.hid (LA.out.next hb)
    clear LA
    have LA := LAq
    clear LAq
    clear hb
    go_wp2
    go_loopw [12] (fun iv wr => ∃ (k : Nat), k ≤ 200 ∧ iv = .int .i64 k ∧ FAsk wr A 200 c lm ∧ Below w.heap.size w wr) (fun iv _ => 200 - (intOf iv).toNat)
    case atStart => exact ⟨0, Nat.zero_le _, rfl, LA.out, HB.out⟩
    case round =>
      obtain ⟨k, hk, rfl, hla, hb⟩ := hrel
      have LB := Lib.hid hla
      have HBZ := Lib.hid hb
      clear hla hb
      by_cases hlt : k < 200
      · obtain ⟨b1, off, hA, hbl, hc, hy⟩ := LB.out.one hlt
        subst hA
        have HMEM : Hid (lm.getD k 0 ∈ lm) := Lib.hid (by
          have hkl : k < lm.length := by rw [LB.out.len]; exact hlt
          rw [List.getD, List.getElem?_eq_getElem hkl]
          exact List.getElem_mem hkl)
        obtain ⟨y, ey⟩ : ∃ y, lm.getD k 0 = y := ⟨_, rfl⟩
        rw [ey] at hc hy HMEM
        have HY := Lib.hid hy
        have hgt : (FloatKind.f64.format.order (cleanF y) sm == some Ordering.gt) = false := by
          rw [fgr (Nat.le_of_lt (cleanF_lt y)) (Nat.le_of_lt HSL.out)]
          exact decide_eq_false (Nat.not_lt.2 (by rw [← HSM.out]; exact sumF_ge lm y HMEM.out))
        clear hy ey
        go_wp2_with fail
        refine (H.clean y _ HY.out).mono ?_
        rintro e w20 ⟨rfl, hb⟩
        have LBq := Lib.hid (LB.out.next hb)
        clear LB
        have LB := LBq
        clear LBq
        have HBZq := Lib.hid (HBZ.out.trans (hb.mono HBZ.out.size))
        clear HBZ
        have HBZ := HBZq
        clear HBZq
        clear hb hc
        go_wp2
        go_roundw
        case rel => exact ⟨k + 1, by omega, by go_num, LB.out, HBZ.out⟩
        case measure => simp [intOf] <;> omega
      · go_wp2
        go_ret
        exact ⟨rfl, HBZ.out⟩


end Go.Proofs.Ytaehhafdodoljaa
