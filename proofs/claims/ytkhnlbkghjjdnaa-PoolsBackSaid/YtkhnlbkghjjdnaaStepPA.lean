/- The program's small functions of layer 3 (step): amount, span, stepEnd, New, and the slices.Clone of steps: what they answer of anything. -/
import Derived.Test.YtkhnlbkghjjdnaaStepPMath
namespace Go.Proofs.Ytkhnlbkghjjdnaa
open Go.RowKit

def amtB (k : Int) : Bool := decide (0 ≤ k ∧ k ≤ 1048576)
def spanB (a b : Int) : Bool := decide ((0 ≤ a ∧ a ≤ 4611686018427387904) ∧ (0 ≤ b ∧ b ≤ 4611686018427387904) ∧ a < b)

theorem amount_any (k : Int) (w : World) : Calls Try.prog 43 #[.int .i64 k] w fun e w' => e = .returned (.bool (amtB k)) ∧ w = w' := by
  by_cases h : 0 ≤ k
  · by_cases h2 : k ≤ 1048576
    · have e : Hid (amtB k = true) := Lib.hid (by unfold amtB; exact decide_eq_true ⟨h, h2⟩)
      go_enter Try.func43, Try.ntmps43
      go_wp2
      go_ret
      exact ⟨ret_bl e.out, rfl⟩
    · have e : Hid (amtB k = false) := Lib.hid (by unfold amtB; exact decide_eq_false (fun h' => h2 h'.2))
      go_enter Try.func43, Try.ntmps43
      go_wp2
      go_ret
      exact ⟨ret_bl e.out, rfl⟩
  · have e : Hid (amtB k = false) := Lib.hid (by unfold amtB; exact decide_eq_false (fun h' => h h'.1))
    go_enter Try.func43, Try.ntmps43
    go_wp2
    go_ret
    exact ⟨ret_bl e.out, rfl⟩
theorem amount_b {k : Int} {w : World} {b : Bool} (h : amtB k = b) : Calls Try.prog 43 #[.int .i64 k] w fun e w' => e = .returned (.bool b) ∧ w = w' := by
  subst h; exact amount_any k w

theorem span_any (a b : Int) (w : World) : Calls Try.prog 42 #[.int .i64 a, .int .i64 b] w fun e w' => e = .returned (.bool (spanB a b)) ∧ w = w' := by
  have e0 : Hid (spanB a b = (timeB a && timeB b && decide (a < b))) := Lib.hid (by
    unfold spanB timeB
    rw [Bool.eq_iff_iff, Bool.and_eq_true, Bool.and_eq_true, decide_eq_true_eq, decide_eq_true_eq, decide_eq_true_eq, decide_eq_true_eq]
    omega)
  cases ha : timeB a with
  | false =>
    have e : Hid (spanB a b = false) := Lib.hid (by rw [e0.out, ha]; rfl)
    have HA := Lib.hid ha
    clear ha e0
    go_enter Try.func42, Try.ntmps42
    go_wp2_with fail
    refine (whenRight_b a _ _ HA.out).mono ?_
    rintro e w1 ⟨rfl, rfl⟩
    go_wp2
    go_ret
    exact ⟨ret_bl e.out, rfl⟩
  | true =>
    have HA := Lib.hid ha
    cases hb : timeB b with
    | false =>
      have e : Hid (spanB a b = false) := Lib.hid (by rw [e0.out, ha, hb]; rfl)
      have HB := Lib.hid hb
      clear ha hb e0
      go_enter Try.func42, Try.ntmps42
      go_wp2_with fail
      refine (whenRight_b a _ _ HA.out).mono ?_
      rintro e w1 ⟨rfl, rfl⟩
      go_wp2_with fail
      refine (whenRight_b b _ _ HB.out).mono ?_
      rintro e w1 ⟨rfl, rfl⟩
      go_wp2
      go_ret
      exact ⟨ret_bl e.out, rfl⟩
    | true =>
      have e : Hid (spanB a b = decide (a < b)) := Lib.hid (by rw [e0.out, ha, hb]; rfl)
      have HB := Lib.hid hb
      clear ha hb e0
      by_cases hab : a < b
      · have ed : Hid (decide (a < b) = true) := Lib.hid (decide_eq_true hab)
        go_enter Try.func42, Try.ntmps42
        go_wp2_with fail
        refine (whenRight_b a _ _ HA.out).mono ?_
        rintro e w1 ⟨rfl, rfl⟩
        go_wp2_with fail
        refine (whenRight_b b _ _ HB.out).mono ?_
        rintro e w1 ⟨rfl, rfl⟩
        go_wp2
        go_ret
        first | exact ⟨ret_bl (e.out.trans ed.out), rfl⟩ | exact ⟨ret_bl e.out, rfl⟩
      · have ed : Hid (decide (a < b) = false) := Lib.hid (decide_eq_false hab)
        go_enter Try.func42, Try.ntmps42
        go_wp2_with fail
        refine (whenRight_b a _ _ HA.out).mono ?_
        rintro e w1 ⟨rfl, rfl⟩
        go_wp2_with fail
        refine (whenRight_b b _ _ HB.out).mono ?_
        rintro e w1 ⟨rfl, rfl⟩
        go_wp2
        go_ret
        first | exact ⟨ret_bl (e.out.trans ed.out), rfl⟩ | exact ⟨ret_bl e.out, rfl⟩
theorem span_b {a b : Int} {w : World} {x : Bool} (h : spanB a b = x) : Calls Try.prog 42 #[.int .i64 a, .int .i64 b] w fun e w' => e = .returned (.bool x) ∧ w = w' := by
  subst h; exact span_any a b w

theorem stepNew_any (k : Int) (w : World) (_ : I64 k) : Calls Try.prog 37 #[.int .i64 k] w (SPost (newR k).1 (newR k).2 w) := by
  cases h : amtB k with
  | false =>
    have e : newR k = ([], 1) := by unfold newR; rw [if_neg]; unfold amtB at h; simpa using h
    rw [e]
    have HA := Lib.hid h
    clear h e
    go_enter Try.func37, Try.ntmps37
    go_wp2_with fail
    refine (amount_b HA.out).mono ?_
    rintro e w1 ⟨rfl, rfl⟩
    go_wp2
    go_ret2
    exact ⟨⟨none, 0, rfl, RS.nil, fun _ => rfl, Nat.le_refl _⟩, Below.refl _ _⟩
  | true =>
    have e : newR k = ([(0, k)], 0) := by unfold newR; rw [if_pos]; unfold amtB at h; simpa using h
    rw [e]
    have HA := Lib.hid h
    clear h e
    go_enter Try.func37, Try.ntmps37
    go_wp2_with fail
    refine (amount_b HA.out).mono ?_
    rintro e w1 ⟨rfl, rfl⟩
    go_wp2
    go_ret2
    refine ⟨⟨some ⟨w.heap.size, 0, none⟩, 1, rfl, ⟨rfl, fun _ => ⟨w.heap.size, 0, rfl, by simp, fun j hj => ?_⟩⟩, (fun h => by cases h), Nat.le_refl _⟩, (Below.refl _ _).alloc (Nat.le_refl _) _⟩
    obtain rfl : j = 0 := by have hj' : j < 1 := hj; omega
    exact ⟨World.cell?_alloc_at (w := w) _ _ w.heap.size 0 rfl, World.cell?_alloc_at (w := w) _ _ w.heap.size 1 rfl⟩

theorem stepEnd_any (A : Option Addr) (n c : Nat) (p : List (Int × Int)) (k : Nat) (w : World) (B : Nat) (hr : RS w B A n p) (hn : n ≤ 2000) (hk : k < n) :
    Calls Try.prog 49 #[.slice A n c, .int .i64 k] w fun e w' => e = .returned (.int .i64 (endP p k)) ∧ w = w' := by
  have HR := Lib.hid hr
  clear hr
  by_cases h : k + 1 < n
  · have e : Hid (endP p k = (p.getD (k + 1) (0, 0)).1) := Lib.hid (by unfold endP; rw [if_pos (by rw [HR.out.1]; exact h)])
    obtain ⟨b, off, rfl, _, hc1, hc2⟩ := HR.out.cells h
    generalize (p.getD (k + 1) (0, 0)).1 = x at *
    generalize (p.getD (k + 1) (0, 0)).2 = y at *
    go_enter Try.func49, Try.ntmps49
    go_wp2
    go_ret
    exact ⟨ret_int e.out.symm, rfl⟩
  · have e : Hid (endP p k = NEVER) := Lib.hid (by unfold endP; rw [if_neg (by rw [HR.out.1]; exact h)])
    go_enter Try.func49, Try.ntmps49
    go_wp2
    go_ret
    exact ⟨ret_int e.out.symm, rfl⟩

end Go.Proofs.Ytkhnlbkghjjdnaa
