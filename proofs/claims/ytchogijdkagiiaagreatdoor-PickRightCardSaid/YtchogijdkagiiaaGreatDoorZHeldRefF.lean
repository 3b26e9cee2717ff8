/- The reference's Over of layer 10. Written by gen/gen_heldref6.py. -/
import Derived.Test.YtchogijdkagiiaaGreatDoorMg06
import Derived.Test.YtchogijdkagiiaaGreatDoorMg03
import Derived.Test.YtchogijdkagiiaaGreatDoorMg08
namespace Go.Proofs.YtchogijdkagiiaaGreatDoor
open Go.RowKit

theorem ob_table {w wr : World} {v : Value} {xs : Tb} (h : OB EH 4 41 w v xs wr) : ∃ A c, v = .slice A xs.length c ∧ RT wr wr.heap.size A xs.length xs ∧ (A = none → c = 0) ∧ xs.length ≤ c := by
  have ho := h.on eh_steady
  obtain ⟨A, c, rfl, h1, h2⟩ := ho.form
  exact ⟨A, c, rfl, ho.reads eh_steady (by omega) rfl, h1, h2⟩
end Go.Proofs.YtchogijdkagiiaaGreatDoor
