/- Words for memory: a block that holds a spec. -/
import Derived.Test.YtpaabeadiokgoaaSpecMath
import Derived.Test.YtpaabeadiokgoaaWords
import Derived.Laws.Rows
namespace Go.Proofs.Ytpaabeadiokgoaa
open Go.RowKit

/-- a spec's value -/
def spV (s : Sp) : Value := .agg #[.int .i64 s.nodes, .int .i64 s.cores, .int .i64 s.gpus, .string s.tag, .bool s.whole, .int .i64 s.long, .int .i64 s.prio]
/-- a block with a spec's cells -/
def spO (s : Sp) : Obj := .cells #[.int .i64 s.nodes, .int .i64 s.cores, .int .i64 s.gpus, .string s.tag, .bool s.whole, .int .i64 s.long, .int .i64 s.prio] 23
/-- a spec as it may be handed in -/
structure SAsk (s : Sp) : Prop where
  nodes : I64 s.nodes
  cores : I64 s.cores
  gpus : I64 s.gpus
  tag : s.tag.size ≤ maxLen
  long : I64 s.long
  prio : I64 s.prio
/-- block g holds the spec s -/
structure BoxS (wr : World) (g : Nat) (s : Sp) : Prop where
  lt : g < wr.heap.size
  at' : wr.heap[g]? = some (spO s)
section
variable {w wr w' : World} {g : Nat} {s : Sp}
theorem BoxS.next (h : BoxS wr g s) (hb : Below wr.heap.size wr w') : BoxS w' g s := ⟨Nat.lt_of_lt_of_le h.lt hb.size, (hb.block _ h.lt).trans h.at'⟩
theorem BoxS.alloc (h : BoxS wr g s) (o : Obj) : BoxS (wr.alloc o) g s := h.next ((Below.refl _ _).alloc (Nat.le_refl _) _)
theorem BoxS.drewN (h : BoxS wr g s) (q : Nat) : BoxS (wr.drewN q) g s := h.next (bel_drew wr q)
theorem box_new (w : World) (s : Sp) : BoxS (w.alloc (spO s)) w.heap.size s := ⟨by simp, heap_alloc_new w _⟩
theorem BoxS.c0 (h : BoxS wr g s) : wr.cell? ⟨g, 0, none⟩ = some (.int .i64 s.nodes) := (cell_of_row wr g 0 _ _ (0, 0) h.at').trans rfl
theorem BoxS.c1 (h : BoxS wr g s) : wr.cell? ⟨g, 1, none⟩ = some (.int .i64 s.cores) := (cell_of_row wr g 1 _ _ (0, 0) h.at').trans rfl
theorem BoxS.c2 (h : BoxS wr g s) : wr.cell? ⟨g, 2, none⟩ = some (.int .i64 s.gpus) := (cell_of_row wr g 2 _ _ (0, 0) h.at').trans rfl
theorem BoxS.c3 (h : BoxS wr g s) : wr.cell? ⟨g, 3, none⟩ = some (.string s.tag) := (cell_of_row wr g 3 _ _ (0, 0) h.at').trans rfl
theorem BoxS.c4 (h : BoxS wr g s) : wr.cell? ⟨g, 4, none⟩ = some (.bool s.whole) := (cell_of_row wr g 4 _ _ (0, 0) h.at').trans rfl
theorem BoxS.c5 (h : BoxS wr g s) : wr.cell? ⟨g, 5, none⟩ = some (.int .i64 s.long) := (cell_of_row wr g 5 _ _ (0, 0) h.at').trans rfl
theorem BoxS.c6 (h : BoxS wr g s) : wr.cell? ⟨g, 6, none⟩ = some (.int .i64 s.prio) := (cell_of_row wr g 6 _ _ (0, 0) h.at').trans rfl
theorem BoxS.frozen (h : BoxS wr g s) (j : Nat) : wr.frozen? ⟨g, j, none⟩ = false := frozen_of_row wr g j _ _ h.at'
end
theorem spec_size : (Try.prog.info? 23).map (·.size) = some 7 := by kernel_rfl
/-- a whole spec is loaded -/
theorem wpList_load_spec {ops : Array Oper} {rest : List Oper} {o : Oper} {a : Act} {Q : Exit → Act → World → Prop} {w : World} {g : Nat} {s : Sp} (hgd : o.guard = none) (x : Operand) (ho : o.op = .load 23 x)
    (hm : BoxS w g s) (hx : a.eval x = .pointer (some ⟨g, 0, none⟩))
    (h : wpList Try.prog ops Q rest (a.put o.dst (spV s)) w) : wpList Try.prog ops Q (o :: rest) a w :=
  wpList_load_row hgd _ x ho g hx _ _ (0, 0) _ hm.at' Try.underlying23 rfl spec_size h

end Go.Proofs.Ytpaabeadiokgoaa
