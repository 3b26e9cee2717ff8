/- Words for memory: a job by value, a block that holds a job. Written by gen/gen_job.py. -/
import Derived.Test.YtpaabeadiokgoaaJobMath
import Derived.Test.YtpaabeadiokgoaaSpecMem
import Derived.Test.YtpaabeadiokgoaaSetFace
import Derived.Test.YtpaabeadiokgoaaLater
namespace Go.Proofs.Ytpaabeadiokgoaa
open Go.RowKit

/-- a job as it may be handed in -/
structure JAsk (w : World) (A : Option Addr) (m c : Nat) (j : Jb) : Prop where
  reads : RI w w.heap.size A m j.needs
  nil : A = none → c = 0
  cap : m ≤ c
  few : m ≤ maxLen
  spec : SAsk j.spec
  int : I64 j.id ∧ I64 j.state ∧ I64 j.came ∧ I64 j.frm ∧ I64 j.to ∧ ∀ n ∈ j.needs, I64 n
theorem JAsk.next {w w' : World} {A : Option Addr} {m c : Nat} {j : Jb} (h : JAsk w A m c j) (hb : Below w.heap.size w w') : JAsk w' A m c j := ⟨h.reads.next hb, h.nil, h.cap, h.few, h.spec, h.int⟩
/-- a job's cells -/
def jA (j : Jb) (A : Option Addr) (m c : Nat) : Array Value := #[.int .i64 j.id, .int .i64 j.spec.nodes, .int .i64 j.spec.cores, .int .i64 j.spec.gpus, .string j.spec.tag, .bool j.spec.whole, .int .i64 j.spec.long, .int .i64 j.spec.prio, .slice A m c, .int .i64 j.state, .int .i64 j.came, .int .i64 j.frm, .int .i64 j.to]
def jV (j : Jb) (A : Option Addr) (m c : Nat) : Value := .agg #[.int .i64 j.id, .int .i64 j.spec.nodes, .int .i64 j.spec.cores, .int .i64 j.spec.gpus, .string j.spec.tag, .bool j.spec.whole, .int .i64 j.spec.long, .int .i64 j.spec.prio, .slice A m c, .int .i64 j.state, .int .i64 j.came, .int .i64 j.frm, .int .i64 j.to]
def jO (j : Jb) (A : Option Addr) (m c : Nat) : Obj := .cells #[.int .i64 j.id, .int .i64 j.spec.nodes, .int .i64 j.spec.cores, .int .i64 j.spec.gpus, .string j.spec.tag, .bool j.spec.whole, .int .i64 j.spec.long, .int .i64 j.spec.prio, .slice A m c, .int .i64 j.state, .int .i64 j.came, .int .i64 j.frm, .int .i64 j.to] 26
/-- block g holds the cells of a job -/
structure BoxJ (wr : World) (g : Nat) (j : Jb) (A : Option Addr) (m c : Nat) : Prop where
  lt : g < wr.heap.size
  at' : wr.heap[g]? = some (jO j A m c)
section
variable {wr w' : World} {g : Nat} {j : Jb} {A : Option Addr} {m c : Nat}
theorem BoxJ.next (h : BoxJ wr g j A m c) (hb : Below wr.heap.size wr w') : BoxJ w' g j A m c := ⟨Nat.lt_of_lt_of_le h.lt hb.size, (hb.block _ h.lt).trans h.at'⟩
theorem boxJ_new (w : World) (j : Jb) (A : Option Addr) (m c : Nat) : BoxJ (w.alloc (jO j A m c)) w.heap.size j A m c := ⟨by simp, heap_alloc_new w _⟩
theorem BoxJ.c0 (h : BoxJ wr g j A m c) : wr.cell? ⟨g, 0, none⟩ = some (.int .i64 j.id) := (cell_of_row wr g 0 _ _ (0, 0) h.at').trans rfl
theorem BoxJ.c1 (h : BoxJ wr g j A m c) : wr.cell? ⟨g, 1, none⟩ = some (.int .i64 j.spec.nodes) := (cell_of_row wr g 1 _ _ (0, 0) h.at').trans rfl
theorem BoxJ.c2 (h : BoxJ wr g j A m c) : wr.cell? ⟨g, 2, none⟩ = some (.int .i64 j.spec.cores) := (cell_of_row wr g 2 _ _ (0, 0) h.at').trans rfl
theorem BoxJ.c3 (h : BoxJ wr g j A m c) : wr.cell? ⟨g, 3, none⟩ = some (.int .i64 j.spec.gpus) := (cell_of_row wr g 3 _ _ (0, 0) h.at').trans rfl
theorem BoxJ.c4 (h : BoxJ wr g j A m c) : wr.cell? ⟨g, 4, none⟩ = some (.string j.spec.tag) := (cell_of_row wr g 4 _ _ (0, 0) h.at').trans rfl
theorem BoxJ.c5 (h : BoxJ wr g j A m c) : wr.cell? ⟨g, 5, none⟩ = some (.bool j.spec.whole) := (cell_of_row wr g 5 _ _ (0, 0) h.at').trans rfl
theorem BoxJ.c6 (h : BoxJ wr g j A m c) : wr.cell? ⟨g, 6, none⟩ = some (.int .i64 j.spec.long) := (cell_of_row wr g 6 _ _ (0, 0) h.at').trans rfl
theorem BoxJ.c7 (h : BoxJ wr g j A m c) : wr.cell? ⟨g, 7, none⟩ = some (.int .i64 j.spec.prio) := (cell_of_row wr g 7 _ _ (0, 0) h.at').trans rfl
theorem BoxJ.c8 (h : BoxJ wr g j A m c) : wr.cell? ⟨g, 8, none⟩ = some (.slice A m c) := (cell_of_row wr g 8 _ _ (0, 0) h.at').trans rfl
theorem BoxJ.c9 (h : BoxJ wr g j A m c) : wr.cell? ⟨g, 9, none⟩ = some (.int .i64 j.state) := (cell_of_row wr g 9 _ _ (0, 0) h.at').trans rfl
theorem BoxJ.c10 (h : BoxJ wr g j A m c) : wr.cell? ⟨g, 10, none⟩ = some (.int .i64 j.came) := (cell_of_row wr g 10 _ _ (0, 0) h.at').trans rfl
theorem BoxJ.c11 (h : BoxJ wr g j A m c) : wr.cell? ⟨g, 11, none⟩ = some (.int .i64 j.frm) := (cell_of_row wr g 11 _ _ (0, 0) h.at').trans rfl
theorem BoxJ.c12 (h : BoxJ wr g j A m c) : wr.cell? ⟨g, 12, none⟩ = some (.int .i64 j.to) := (cell_of_row wr g 12 _ _ (0, 0) h.at').trans rfl
theorem BoxJ.frozen (h : BoxJ wr g j A m c) (k : Nat) : wr.frozen? ⟨g, k, none⟩ = false := frozen_of_row wr g k _ _ h.at'
/-- a cell of the block is set -/
theorem BoxJ.set {j' : Jb} {A' : Option Addr} {m' c' k : Nat} {v : Value} (h : BoxJ wr g j A m c) (e : (jA j A m c).setIfInBounds k v = jA j' A' m' c') : BoxJ (wr.setCell ⟨g, k, none⟩ v) g j' A' m' c' := by
  refine ⟨by simpa [World.setCell] using h.lt, ?_⟩
  show (wr.heap.modify g _)[g]? = _
  rw [Array.getElem?_modify, if_pos rfl, h.at']
  show some (Obj.cells ((jA j A m c).setIfInBounds k v) _) = _
  rw [e]; rfl
end

end Go.Proofs.Ytpaabeadiokgoaa
