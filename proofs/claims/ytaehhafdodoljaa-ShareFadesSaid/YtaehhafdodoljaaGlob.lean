/- What is taken of the library's tables, where a seat's code reaches them: nothing, or that they lie as Go's text lays them. -/
import Derived.Test.YtaehhafdodoljaaWords
namespace Go.Proofs.Ytaehhafdodoljaa
open Go.RowKit

def Glob (w : World) : Prop := (w = w)
theorem Glob.next {w w' : World} (h : Glob w) (hb : Below w.heap.size w w') : Glob w' := by
  have _h := h
  have _hb := hb
  first
    | exact rfl

end Go.Proofs.Ytaehhafdodoljaa
