/- The reference's Add of layer 10. Written by gen/gen_heldref7.py. -/
import Derived.Test.YtbiofikijehlcaaMg07
import Derived.Test.YtbiofikijehlcaaZHeldIns
namespace Go.Proofs.Ytbiofikijehlcaa
open Go.RowKit

theorem first_no {l : Tb} {id r : Int} (h : FirstAt l id r) (hn : ∀ x ∈ l, x.id ≠ id) : r = -1 := by
  rcases h with ⟨h, _⟩ | ⟨k, hk, _, h2, _⟩
  · exact h
  · rw [getD_hd hk] at h2
    exact absurd h2 (hn _ (List.getElem_mem hk))
theorem first_yes {l : Tb} {id r : Int} (h : FirstAt l id r) (hs : hasT l id = true) : 0 ≤ r := by
  rcases h with ⟨_, h⟩ | ⟨k, _, h1, _, _⟩
  · obtain ⟨x, hx, e⟩ := has_iff_id.1 hs
    obtain ⟨j, hj, rfl⟩ := List.getElem_of_mem hx
    exact absurd (by rw [getD_hd hj]; exact e) (h j hj)
  · omega

/-- a row of holdings -/
def OBH (w : World) (v : Value) (xs : Tb) (wr : World) : Prop := OB EH 4 36 w v xs wr
theorem OBH.next {w wr w1 : World} {v : Value} {xs : Tb} (h : OBH w v xs wr) (hb : Below wr.heap.size wr w1) : OBH w v xs w1 := OB.next eh_steady h hb
theorem OBH.below {w wr : World} {v : Value} {xs : Tb} (h : OBH w v xs wr) : Below w.heap.size w wr := OB.below h
theorem HAsk.el2 {w W w' : World} {A : Option Addr} {m c : Nat} {h : Hd} (hh : HAsk w A m c h) (hb : Below w.heap.size w W) (hw : Below W.heap.size W w') : EH w' (Lt W.heap.size) h [.int .i64 h.id, .slice A m c, .int .i64 h.frm, .int .i64 h.to] := (hh.next hb).el hw

end Go.Proofs.Ytbiofikijehlcaa
