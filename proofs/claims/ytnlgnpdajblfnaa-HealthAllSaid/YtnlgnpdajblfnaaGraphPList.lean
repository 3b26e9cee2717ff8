/- The program's there, marks.list, Node of layer 5 (graph): what they answer of any list of things, any marks. -/
import Derived.Test.YtnlgnpdajblfnaaGraphPRight
import Derived.Test.YtnlgnpdajblfnaaGraphFace
namespace Go.Proofs.Ytnlgnpdajblfnaa
open Go.RowKit

def thereB (g : Gr) (a : Int) : Bool := decide (0 ≤ a ∧ a < g.length) && rightG g
theorem thereB_no {g : Gr} {a : Int} (h : ¬ (0 ≤ a ∧ a < g.length)) : thereB g a = false := by unfold thereB; rw [decide_eq_false h, Bool.false_and]
theorem thereB_is {g : Gr} {a : Int} : thereB g a = true ↔ rightG g = true ∧ 0 ≤ a ∧ a < g.length := by
  unfold thereB
  rw [Bool.and_eq_true, decide_eq_true_eq]
  exact ⟨fun h => ⟨h.2, h.1⟩, fun h => ⟨h.2, h.1⟩⟩

/-- marks of the first n things alone -/
theorem numsF_cut {p : Nat → Bool} {n : Nat} : ∀ {m : Nat}, n ≤ m → numsF (fun j => decide (j < n) && p j) m = numsF p n := by
  intro m hm
  induction m with
  | zero =>
    obtain rfl : n = 0 := by omega
    rfl
  | succ m ih =>
    by_cases h : n = m + 1
    · subst h
      exact numsF_ext (fun k hk => by rw [decide_eq_true hk, Bool.true_and])
    · rw [numsF_no (by rw [decide_eq_false (by omega), Bool.false_and])]
      exact ih (by omega)


end Go.Proofs.Ytnlgnpdajblfnaa
