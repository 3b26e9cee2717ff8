/- The reference's Clean, Fade, Sum, Share of layer 15. Written by gen/gen_share.py. -/
import Derived.Test.YtaehhafdodoljaaShareMem
import Derived.Test.YtaehhafdodoljaaLater
import Derived.LoopTactic
import Derived.Deep.RegionHeld3
namespace Go.Proofs.Ytaehhafdodoljaa
open Go.RowKit

theorem refClean_any (x : Nat) (w : World) (hx : W64 x) : Calls Try.prog 11 #[.float .f64 x] w fun e w' => e = .returned (.float .f64 (cleanF x)) ∧ Below w.heap.size w w' := by
  have HB := Lib.hid (Below.refl w.heap.size w)
  have g1 := fgt hx (b := 9218868437227405311) (by decide)
  have g2 := fgt hx (b := 0) (by decide)
  by_cases h1 : x = 9218868437227405312
  · rw [decide_eq_true (by omega)] at g1
    have e : cleanF x = 9218868437227405311 := by subst h1; rfl
    rw [e]
    clear hx g2 h1 e
    go_enter Try.func11, Try.ntmps11
    go_wp2
    go_ret
    exact ⟨rfl, HB.out⟩
  · rw [decide_eq_false (by omega)] at g1
    by_cases h2 : 0 < x ∧ x ≤ 9218868437227405312
    · rw [decide_eq_true h2] at g2
      have e : cleanF x = x := cleanF_self (by omega)
      rw [e]
      clear hx h1 h2 e
      go_enter Try.func11, Try.ntmps11
      go_wp2
      go_ret
      exact ⟨rfl, HB.out⟩
    · rw [decide_eq_false h2] at g2
      have e : cleanF x = 0 := by
        by_cases h0 : x = 0
        · subst h0; rfl
        · unfold cleanF; rw [if_neg (by omega), if_neg h1]
      rw [e]
      clear hx h1 h2 e
      go_enter Try.func11, Try.ntmps11
      go_wp2
      go_ret
      exact ⟨rfl, HB.out⟩
set_option maxRecDepth 100000 in
set_option maxHeartbeats 8000000 in
theorem refFade_any (x : Nat) (h : Int) (w : World) (hx : W64 x) : Calls Try.prog 13 #[.float .f64 x, .int .i64 h] w fun e w' => e = .returned (.float .f64 (fadeV x h)) ∧ Below w.heap.size w w' := by
  have HB := Lib.hid (Below.refl w.heap.size w)
  have hmin : (halvesN h : Int) = max (min h 4096) 0 := by unfold halvesN; omega
  obtain ⟨m, hm⟩ : ∃ m, halvesN h = m := ⟨_, rfl⟩
  obtain ⟨z, hz⟩ : ∃ z, fadeV x h = z := ⟨_, rfl⟩
  have HZ : Hid (fadeN (cleanF x) m = z) := Lib.hid (by rw [← hm]; exact hz)
  rw [hz]
  rw [hm] at hmin
  clear hz hm
  have HCL := Lib.hid (cleanF_lt x)
  have HX := Lib.hid hx
  clear hx
  go_enter Try.func13, Try.ntmps13
  go_wp2_with fail
  refine (refClean_any x w HX.out).mono ?_
  rintro e w1 ⟨rfl, hb⟩
  have HBq := Lib.hid (HB.out.trans (hb.mono HB.out.size))
  clear HB
  have HB := HBq
  clear HBq
  clear hb
  go_wp2
  go_loopw [0, 5] (fun xv iv wr => ∃ (k a : Nat), k ≤ m ∧ iv = .int .i64 k ∧ xv = .float .f64 a ∧ a < 9218868437227405312 ∧ fadeN a (m - k) = z ∧ Below w.heap.size w wr) (fun _ iv _ => m - (intOf iv).toNat)
  case atStart => exact ⟨0, cleanF x, Nat.zero_le _, rfl, rfl, HCL.out, HZ.out, HB.out⟩
  case round =>
    obtain ⟨k, a, hk, rfl, rfl, ha, hfz, hb⟩ := hrel
    have HBZ := Lib.hid hb
    clear hb
    by_cases hlt : k < m
    · have d1 : decide ((k : Int) < h) = true := decide_eq_true (by omega)
      have d2 : decide (k < 4096) = true := decide_eq_true (by omega)
      have HN : Hid (fadeN (halfF a) (m - (k + 1)) = z ∧ halfF a < 9218868437227405312) := Lib.hid ⟨by rw [← hfz, show m - k = m - (k + 1) + 1 by omega]; rfl, Nat.lt_of_le_of_lt (halfF_le a) ha⟩
      have HH : ∀ (t : TypeId) (W : World), (binOp .mul t (.float .f64 a) (.float .f64 4602678819172646912)).run Try.prog W = .ok (.float .f64 (halfF a)) W := fun t W => run_fhalf ha
      clear hfz
      go_wp2
      go_roundw
      case rel => exact ⟨k + 1, _, by omega, by go_num, rfl, HN.out.2, HN.out.1, HBZ.out⟩
      case measure => simp [intOf] <;> omega
    · have hkm : k = m := by omega
      have hz' : a = z := by rw [← hfz, show m - k = 0 by omega]; rfl
      by_cases h2 : (k : Int) < h
      · have d1 : decide ((k : Int) < h) = true := decide_eq_true h2
        have d2 : decide (k < 4096) = false := decide_eq_false (by omega)
        have d3 : decide ((k : Int) < 4096) = false := decide_eq_false (by omega)
        clear hfz hkm hlt h2
        go_wp2
        go_ret
        rw [hz']
        exact ⟨rfl, HBZ.out⟩
      · have d1 : decide ((k : Int) < h) = false := decide_eq_false h2
        clear hfz hkm hlt h2
        go_wp2
        go_ret
        rw [hz']
        exact ⟨rfl, HBZ.out⟩
set_option maxRecDepth 100000 in
set_option maxHeartbeats 8000000 in
theorem refSum_any (A : Option Addr) (n c : Nat) (l : List Nat) (w : World) (hl : FAsk w A n c l) : Calls Try.prog 15 #[.slice A n c] w fun e w' => e = .returned (.float .f64 (sumF l)) ∧ Below w.heap.size w w' := by
  have LA := Lib.hid hl
  have HLN := Lib.hid hl.len
  have HMX := hl.few
  unfold maxLen at HMX
  obtain ⟨z, hz⟩ : ∃ z, sumF l = z := ⟨_, rfl⟩
  rw [hz]
  have HZ := Lib.hid hz
  clear hl hz
  go_enter Try.func15, Try.ntmps15
  go_wp2
  go_loopw [3, 4] (fun xv iv wr => ∃ (k a : Nat), k ≤ n ∧ iv = .int .i64 k ∧ xv = .float .f64 a ∧ a < 9218868437227405312 ∧ (l.take k).foldl plusF 0 = a ∧ Below w.heap.size w wr) (fun _ iv _ => n - (intOf iv).toNat)
  case atStart => exact ⟨0, 0, Nat.zero_le _, rfl, rfl, by decide, rfl, Below.refl _ _⟩
  case round =>
    obtain ⟨k, a, hk, rfl, rfl, ha, hfz, hb⟩ := hrel
    have LB := Lib.hid (LA.out.next hb)
    have HBZ := Lib.hid hb
    clear hb
    by_cases hlt : k < n
    · obtain ⟨b, off, hA, hbl, hc, hx64⟩ := LB.out.one hlt
      subst hA
      have HN : Hid ((l.take (k + 1)).foldl plusF 0 = plusF a (l.getD k 0)) := Lib.hid (by
        have hkl : k < l.length := by rw [HLN.out]; exact hlt
        rw [List.take_succ_eq_append_getElem hkl, List.foldl_append, hfz, show l.getD k 0 = l[k] by rw [List.getD, List.getElem?_eq_getElem hkl]; rfl]
        rfl)
      obtain ⟨x, hx⟩ : ∃ x, l.getD k 0 = x := ⟨_, rfl⟩
      rw [hx] at hc hx64 HN
      have HX := Lib.hid hx64
      clear hx hx64 hfz
      have HADD : ∀ (t : TypeId) (W : World), (binOp .add t (.float .f64 a) (.float .f64 (cleanF x))).run Try.prog W = .ok (.float .f64 (nearF (valF a + valF (cleanF x)) 0)) W := fun t W => run_fadd ha (cleanF_lt x)
      go_wp2_with fail
      refine (refClean_any x _ HX.out).mono ?_
      rintro e w2 ⟨rfl, hb⟩
      have HBZq := Lib.hid (HBZ.out.trans (hb.mono HBZ.out.size))
      clear HBZ
      have HBZ := HBZq
      clear HBZq
      clear hb hc
      go_wp2_with fail
      refine (refClean_any _ _ (w64_le (near_inf _ _))).mono ?_
      rintro e w3 ⟨rfl, hb⟩
      have HBZq := Lib.hid (HBZ.out.trans (hb.mono HBZ.out.size))
      clear HBZ
      have HBZ := HBZq
      clear HBZq
      clear hb
      go_wp2
      go_roundw
      case rel => exact ⟨k + 1, _, by omega, by go_num, rfl, plusF_lt a x, HN.out, HBZ.out⟩
      case measure => simp [intOf] <;> omega
    · have hkn : k = n := by omega
      have hz' : a = z := by rw [← hfz, ← HZ.out, List.take_of_length_le (by rw [HLN.out]; omega)]; rfl
      clear hfz hkn
      go_wp2
      go_ret
      rw [hz']
      exact ⟨rfl, HBZ.out⟩
set_option maxRecDepth 100000 in
set_option maxHeartbeats 8000000 in
theorem refShare_any (u : Us) (w : World) (hu : UsOk u) : Calls Try.prog 17 #[.agg #[.int .i64 u.who, .float .f64 u.had, .float .f64 u.weight]] w fun e w' => e = .returned (.float .f64 (shareU u)) ∧ Below w.heap.size w w' := by
  have hb0 : Below w.heap.size w (w.alloc (.cells #[.int .i64 u.who, .float .f64 u.had, .float .f64 u.weight] 25)) := (Below.refl _ _).alloc (Nat.le_refl _) _
  have BU : Hid (BoxU (w.alloc (.cells #[.int .i64 u.who, .float .f64 u.had, .float .f64 u.weight] 25)) w.heap.size u) := Lib.hid (boxU_new w u)
  have HB := Lib.hid hb0
  have HU := Lib.hid hu
  have hle := cleanF_lt u.had
  have q1 := BU.out.c1
  clear hb0 hu
  by_cases h0 : cleanF u.had = 0
  · have e : shareU u = 0 := by unfold shareU shareF; rw [if_pos h0]
    rw [e]
    have ez : (FloatKind.f64.format.order (cleanF u.had) 0 == some Ordering.eq) = true := by rw [feq (Nat.le_of_lt hle) (by decide)]; exact decide_eq_true h0
    clear h0 e hle
    go_enter Try.func17, Try.ntmps17
    go_wp2_with fail
    refine (refClean_any u.had _ HU.out.had).mono ?_
    rintro e w1 ⟨rfl, hb⟩
    have HBq := Lib.hid (HB.out.trans (hb.mono HB.out.size))
    clear HB
    have HB := HBq
    clear HBq
    clear hb q1
    go_wp2
    go_ret
    exact ⟨rfl, HB.out⟩
  · have ez : (FloatKind.f64.format.order (cleanF u.had) 0 == some Ordering.eq) = false := by rw [feq (Nat.le_of_lt hle) (by decide)]; exact decide_eq_false h0
    have HD : Hid (∀ (t : TypeId) (W : World), (binOp .quo t (.float .f64 (cleanF u.had)) (.float .f64 (cleanF u.weight))).run Try.prog W = .ok (.float .f64 (shareU u)) W) := Lib.hid (fun t W => run_fdiv hle (cleanF_lt _) h0)
    clear h0 hle
    go_enter Try.func17, Try.ntmps17
    go_wp2_with fail
    refine (refClean_any u.had _ HU.out.had).mono ?_
    rintro e w1 ⟨rfl, hb⟩
    have BUq := Lib.hid (BU.out.next hb)
    clear BU
    have BU := BUq
    clear BUq
    have HBq := Lib.hid (HB.out.trans (hb.mono HB.out.size))
    clear HB
    have HB := HBq
    clear HBq
    clear hb q1
    go_wp2
    have q1 := BU.out.c1
    have q2 := BU.out.c2
    have HB1 := Lib.hid (bel_drew1 w1)
    have HKEEP : Hid (∀ wx, Below w1.drew.heap.size w1.drew wx → wx.cell? ⟨w.heap.size, 1, none⟩ = some (.float .f64 u.had) ∧ wx.cell? ⟨w.heap.size, 2, none⟩ = some (.float .f64 u.weight)) := Lib.hid (fun wx hz' => by
      have hz := (bel_drew1 w1).trans (hz'.mono (bel_drew1 w1).size)
      exact ⟨keep_cell BU.out.lt BU.out.c1 hz, keep_cell BU.out.lt BU.out.c2 hz⟩)
    have HBX := Lib.hid (HB.out.trans (HB1.out.mono HB.out.size))
    clear q1 q2
    have HDD := HD.out
    go_region_held3 (fun w' => w'.cell? ⟨w.heap.size, 1, none⟩ = some (.float .f64 u.had) ∧ w'.cell? ⟨w.heap.size, 2, none⟩ = some (.float .f64 u.weight))
      (first | exact HKEEP.out _ (Below.refl _ _) | exact HKEEP.out _ HY.out | exact HKEEP.out _ HYY.out | fail)
      (first | (go_at_call 11; (with_reducible refine (refClean_any u.had w1.drew HU.out.had).mono ?_); rintro e w2 ⟨rfl, hb⟩; have HY := Lib.hid hb; have HBX := Lib.hid (HBX.out.trans (hb.mono HBX.out.size)); clear hb) | (go_at_call 11; (with_reducible refine (refClean_any u.weight w2 HU.out.weight).mono ?_); rintro e w3 ⟨rfl, hb⟩; have HYY := Lib.hid (HY.out.trans (hb.mono HY.out.size)); have HBX := Lib.hid (HBX.out.trans (hb.mono HBX.out.size)); clear hb) | fail)
    go_wp2
    go_ret
    exact ⟨rfl, HBX.out⟩

end Go.Proofs.Ytaehhafdodoljaa
