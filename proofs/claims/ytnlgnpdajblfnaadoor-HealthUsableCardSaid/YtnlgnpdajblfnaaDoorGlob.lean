/- What is taken of the library's tables, where a seat's code reaches them: nothing, or that they lie as Go's text lays them. -/
import Derived.Test.YtnlgnpdajblfnaaDoorWords
import Derived.Test.YtnlgnpdajblfnaaDoorSetList
namespace Go.Proofs.YtnlgnpdajblfnaaDoor
open Go.RowKit
open Go.Shelf

def Glob (w : World) : Prop := (w = w)
  ∧ 0 < w.heap.size ∧ TabAt 0 Lib.deBruijn64tab w
theorem Glob.next {w w' : World} (h : Glob w) (hb : Below w.heap.size w w') : Glob w' := by
  have _h := h
  have _hb := hb
  first
    | exact rfl
    | exact ⟨rfl, Nat.lt_of_lt_of_le h.2.1 hb.size, tab_below h.2.2 hb h.2.1⟩
theorem Glob.pos {w : World} (h : Glob w) : 0 < w.heap.size := h.2.1
theorem Glob.tz {w : World} (h : Glob w) : TabAt 0 Lib.deBruijn64tab w := h.2.2

end Go.Proofs.YtnlgnpdajblfnaaDoor
