/- What the small readers of a slice of int answer: set.Right, the reference's Right, in and Same; the slices read as lists of numbers. -/
import Derived.Test.YtpaabeadiokgoaaSetMath
import Derived.Test.YtpaabeadiokgoaaSetMem
import Derived.Test.YtpaabeadiokgoaaSame01
import Derived.LoopTactic
import Derived.Deep.QuietTactic
import Derived.BigQuiet
namespace Go.Proofs.Ytpaabeadiokgoaa
open Go.RowKit

theorem getD_mem_i64 (xs : List Int) (h : ∀ x ∈ xs, -9223372036854775808 ≤ x ∧ x ≤ 9223372036854775807) (j : Nat) : -9223372036854775808 ≤ xs.getD j 0 ∧ xs.getD j 0 ≤ 9223372036854775807 := by
  by_cases hj : j < xs.length
  · have : xs.getD j 0 = xs[j] := by simp [List.getD, hj]
    rw [this]; exact h _ (List.getElem_mem hj)
  · have : xs.getD j 0 = 0 := by simp [List.getD, hj]
    omega

def lastOf (xs : List Int) (k : Nat) : Int := if k = 0 then -1 else xs.getD (k - 1) 0
theorem right_step (xs : List Int) (k : Nat) (hpre : ∀ i, i < k → okAt xs i) : okAt xs k ↔ (lastOf xs k < xs.getD k 0 ∧ xs.getD k 0 < 256) := by
  unfold lastOf
  rcases Nat.eq_zero_or_pos k with rfl | hp
  · unfold okAt; simp; omega
  · have h := hpre (k - 1) (by omega)
    rw [if_neg (by omega)]
    unfold okAt at h ⊢
    omega





end Go.Proofs.Ytpaabeadiokgoaa
