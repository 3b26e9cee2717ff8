/- Words for memory: an array of five ints in a block of its own. -/
import Derived.Test.YtokjinihdanhbaaDoorWords
namespace Go.Proofs.YtokjinihdanhbaaDoor
open Go.RowKit

/-- an array of five in a new block, behind a world -/
structure Arr5 (W : World) (a0 a1 a2 a3 a4 : Int) (wr : World) : Prop where
  bel : Below W.heap.size W wr
  c0 : wr.cell? ⟨W.heap.size, 0, none⟩ = some (.int .i64 a0)
  c1 : wr.cell? ⟨W.heap.size, 1, none⟩ = some (.int .i64 a1)
  c2 : wr.cell? ⟨W.heap.size, 2, none⟩ = some (.int .i64 a2)
  c3 : wr.cell? ⟨W.heap.size, 3, none⟩ = some (.int .i64 a3)
  c4 : wr.cell? ⟨W.heap.size, 4, none⟩ = some (.int .i64 a4)
  lt : W.heap.size < wr.heap.size
theorem Arr5.next {W wr w' : World} {a0 a1 a2 a3 a4 : Int} (h : Arr5 W a0 a1 a2 a3 a4 wr) (hb : Below wr.heap.size wr w') : Arr5 W a0 a1 a2 a3 a4 w' :=
  ⟨h.bel.trans (hb.mono h.bel.size), (hb.cell (p := ⟨W.heap.size, 0, none⟩) h.lt).trans h.c0, (hb.cell (p := ⟨W.heap.size, 1, none⟩) h.lt).trans h.c1, (hb.cell (p := ⟨W.heap.size, 2, none⟩) h.lt).trans h.c2, (hb.cell (p := ⟨W.heap.size, 3, none⟩) h.lt).trans h.c3, (hb.cell (p := ⟨W.heap.size, 4, none⟩) h.lt).trans h.c4, Nat.lt_of_lt_of_le h.lt hb.size⟩
theorem arr5_put (W : World) (a0 a1 a2 a3 a4 : Int) : Arr5 W a0 a1 a2 a3 a4 (W.alloc (.cells #[.int .i64 a0, .int .i64 a1, .int .i64 a2, .int .i64 a3, .int .i64 a4] 30)) := by
  have h0 := heap_alloc_new W (.cells #[.int .i64 a0, .int .i64 a1, .int .i64 a2, .int .i64 a3, .int .i64 a4] 30)
  have hc := fun j => cell_of_row _ _ j _ _ (0, 0) h0
  exact ⟨(Below.refl _ _).alloc (Nat.le_refl _) _, hc 0, hc 1, hc 2, hc 3, hc 4, (Array.getElem?_eq_some_iff.1 h0).1⟩
theorem Arr5.drewN {W wr : World} {a0 a1 a2 a3 a4 : Int} (h : Arr5 W a0 a1 a2 a3 a4 wr) (q : Nat) : Arr5 W a0 a1 a2 a3 a4 (wr.drewN q) := h.next (bel_drew wr q)
theorem bel_und {w w' : World} (h : Below w.drew.heap.size w.drew w') : Below w.heap.size w w' := ⟨h.os, h.tape, h.output, h.size, h.block⟩

end Go.Proofs.YtokjinihdanhbaaDoor
