/- The reference's Over of layer 10. Written by gen/gen_heldref6.py. -/
import Derived.Test.YtpoalgkgomljmaaGreatDoorMg09
import Derived.Test.YtpoalgkgomljmaaGreatDoorMg05
import Derived.Test.YtpoalgkgomljmaaGreatDoorMg11
namespace Go.Proofs.YtpoalgkgomljmaaGreatDoor
open Go.RowKit

theorem filter_take_yes {l : Tb} {p : Hd → Bool} {k : Nat} (hk : k < l.length) (h : p (l.getD k hd0) = true) : (l.take (k + 1)).filter p = (l.take k).filter p ++ [l.getD k hd0] := by
  rw [List.take_succ_eq_append_getElem hk, List.filter_append, getD_hd hk]
  rw [getD_hd hk] at h
  simp [h]
theorem filter_take_no {l : Tb} {p : Hd → Bool} {k : Nat} (hk : k < l.length) (h : p (l.getD k hd0) = false) : (l.take (k + 1)).filter p = (l.take k).filter p := by
  rw [List.take_succ_eq_append_getElem hk, List.filter_append]
  rw [getD_hd hk] at h
  simp [h]
theorem ob_table {w wr : World} {v : Value} {xs : Tb} (h : OB EH 4 51 w v xs wr) : ∃ A c, v = .slice A xs.length c ∧ RT wr wr.heap.size A xs.length xs ∧ (A = none → c = 0) ∧ xs.length ≤ c := by
  have ho := h.on eh_steady
  obtain ⟨A, c, rfl, h1, h2⟩ := ho.form
  exact ⟨A, c, rfl, ho.reads eh_steady (by omega) rfl, h1, h2⟩
/-- two rows of holdings -/
structure Two (w : World) (v : Value) (xs : Tb) (v2 : Value) (ys : Tb) (wr : World) : Prop where
  a : OB EH 4 51 w v xs wr
  b : OB EH 4 51 w v2 ys wr
  ap : Apart2 v v2
theorem Two.next {w wr w1 : World} {v v2 : Value} {xs ys : Tb} (h : Two w v xs v2 ys wr) (hb : Below wr.heap.size wr w1) : Two w v xs v2 ys w1 := ⟨h.a.next eh_steady hb, h.b.next eh_steady hb, h.ap⟩


end Go.Proofs.YtpoalgkgomljmaaGreatDoor
