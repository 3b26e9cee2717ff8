/- The program's sets, and the reference's, in one form: what each call answers of lists of int; all that was there is kept. Regions that draw their order and whose callees may make memory of their own, but hand back plain values: walked once, in the order of the text, in the class of all worlds that keep what was there. No program's text is walked here. Words for memory: a job by value, a block that holds a job. Written by gen/gen_job.py. How layer 11's arguments are opened: a job by value. -/
import Derived.Test.YtimgdlddfnglaaaMg02
import Derived.Test.YtimgdlddfnglaaaMg04
import Derived.BigQuiet
import Derived.Deep.RegionHeld3
import Derived.Test.YtimgdlddfnglaaaMg01
import Derived.Test.YtimgdlddfnglaaaMg03
namespace Go.Proofs.Ytimgdlddfnglaaa
open Go.RowKit

section
variable {A A' : Option Addr} {n c n' c' : Nat} {xs ys : List Int} {w : World}
theorem ri_same {v : Bool} (hr : RI w w.heap.size A n xs) (hr' : RI w w.heap.size A' n' ys) (hn : n ≤ maxLen) (hn' : n' ≤ maxLen) (h : sameB xs ys = v) :
    Calls Try.prog 10 #[.slice A n c, .slice A' n' c'] w fun e w' => e = .returned (.bool v) ∧ Below w.heap.size w w' :=
  (same_any A A' n c n' c' xs ys w _ _ hr hr' hn hn').mono fun _ _ ⟨h1, k, h2⟩ => ⟨by rw [h1, h], by rw [h2]; exact bel_drew w k⟩
end
theorem same_self (xs : List Int) : sameB xs xs = true := sameB_iff.2 rfl

end Go.Proofs.Ytimgdlddfnglaaa

namespace Go.Proofs.Ytimgdlddfnglaaa
open Go.RowKit

/-- a world that keeps all that was there in w -/
structure Later (w : World) where
  now : World
  bel : Below w.heap.size w now
instance (w : World) : Nonempty (Later w) := ⟨⟨w, Below.refl _ _⟩⟩
theorem below_drew1 (w : World) : Below w.heap.size w w.drew := bel_drew w 1
theorem wp_region_later {P : Program} {id : Nat} {Q : Exit → Act → World → Prop} {a : Act} {w : World} {l : List Oper} (hm : P.follows .mixedOrders = true) (hB : Region.lexB .any l.toArray = true)
    (h : wpQuiet P l.toArray (fun w' => ∃ p : Later w, w' = p.now) (fun a' => ∀ w', (∃ p : Later w, w' = p.now) → Q .normal a' w') l a) : (Code.region id l.toArray true).wp P Q a w :=
  wp_region_quiet (C := fun w' => ∃ p : Later w, w' = p.now) hm hB ⟨⟨w.drew, below_drew1 w⟩, rfl⟩ (by simpa using h)
theorem Calls.later_of {P : Program} {f : FuncId} {args : Array Value} {w : World} {p : Later w} {v : Value} (h : Calls P f args p.now fun e w' => e = .returned v ∧ Below p.now.heap.size p.now w') :
    Calls P f args p.now fun e w'' => e = .returned v ∧ ∃ q : Later w, w'' = q.now :=
  h.mono fun _ w' hz => ⟨hz.1, ⟨w', p.bel.trans (hz.2.mono p.bel.size)⟩, rfl⟩
theorem Later.cell {w : World} {p : Later w} {a : Addr} {v : Value} (hl : a.block < w.heap.size) (h : w.cell? a = some v) : p.now.cell? a = some v := (p.bel.cell hl).trans h

/-! a cell that is carried from world to world -/
theorem bel_drew1 (w : World) : Below w.heap.size w w.drew := bel_drew w 1
theorem keep_cell {w wx : World} {p : Addr} {v : Value} (hl : p.block < w.heap.size) (h : w.cell? p = some v) (hb : Below w.heap.size w wx) : wx.cell? p = some v := (hb.cell hl).trans h
structure CellK (w : World) (p : Addr) (v : Value) : Prop where
  lt : p.block < w.heap.size
  at' : w.cell? p = some v
theorem CellK.next {w w' : World} {p : Addr} {v : Value} (h : CellK w p v) (hb : Below w.heap.size w w') : CellK w' p v := ⟨Nat.lt_of_lt_of_le h.lt hb.size, keep_cell h.lt h.at' hb⟩

end Go.Proofs.Ytimgdlddfnglaaa

namespace Go.Proofs.Ytimgdlddfnglaaa
open Go.RowKit

/-- a job as it may be handed in -/
structure JAsk (w : World) (A : Option Addr) (m c : Nat) (j : Jb) : Prop where
  reads : RI w w.heap.size A m j.needs
  nil : A = none → c = 0
  cap : m ≤ c
  few : m ≤ maxLen
  spec : SAsk j.spec
  int : I64 j.id ∧ I64 j.state ∧ I64 j.came ∧ I64 j.frm ∧ I64 j.to ∧ ∀ n ∈ j.needs, I64 n
theorem JAsk.next {w w' : World} {A : Option Addr} {m c : Nat} {j : Jb} (h : JAsk w A m c j) (hb : Below w.heap.size w w') : JAsk w' A m c j := ⟨h.reads.next hb, h.nil, h.cap, h.few, h.spec, h.int⟩
/-- a job's cells -/
def jA (j : Jb) (A : Option Addr) (m c : Nat) : Array Value := #[.int .i64 j.id, .int .i64 j.spec.nodes, .int .i64 j.spec.cores, .int .i64 j.spec.gpus, .string j.spec.tag, .bool j.spec.whole, .int .i64 j.spec.long, .int .i64 j.spec.prio, .slice A m c, .int .i64 j.state, .int .i64 j.came, .int .i64 j.frm, .int .i64 j.to]
def jV (j : Jb) (A : Option Addr) (m c : Nat) : Value := .agg #[.int .i64 j.id, .int .i64 j.spec.nodes, .int .i64 j.spec.cores, .int .i64 j.spec.gpus, .string j.spec.tag, .bool j.spec.whole, .int .i64 j.spec.long, .int .i64 j.spec.prio, .slice A m c, .int .i64 j.state, .int .i64 j.came, .int .i64 j.frm, .int .i64 j.to]
def jO (j : Jb) (A : Option Addr) (m c : Nat) : Obj := .cells #[.int .i64 j.id, .int .i64 j.spec.nodes, .int .i64 j.spec.cores, .int .i64 j.spec.gpus, .string j.spec.tag, .bool j.spec.whole, .int .i64 j.spec.long, .int .i64 j.spec.prio, .slice A m c, .int .i64 j.state, .int .i64 j.came, .int .i64 j.frm, .int .i64 j.to] 30
/-- block g holds the cells of a job -/
structure BoxJ (wr : World) (g : Nat) (j : Jb) (A : Option Addr) (m c : Nat) : Prop where
  lt : g < wr.heap.size
  at' : wr.heap[g]? = some (jO j A m c)
section
variable {wr w' : World} {g : Nat} {j : Jb} {A : Option Addr} {m c : Nat}
theorem BoxJ.next (h : BoxJ wr g j A m c) (hb : Below wr.heap.size wr w') : BoxJ w' g j A m c := ⟨Nat.lt_of_lt_of_le h.lt hb.size, (hb.block _ h.lt).trans h.at'⟩
theorem boxJ_new (w : World) (j : Jb) (A : Option Addr) (m c : Nat) : BoxJ (w.alloc (jO j A m c)) w.heap.size j A m c := ⟨by simp, heap_alloc_new w _⟩
theorem BoxJ.c0 (h : BoxJ wr g j A m c) : wr.cell? ⟨g, 0, none⟩ = some (.int .i64 j.id) := (cell_of_row wr g 0 _ _ (0, 0) h.at').trans rfl
theorem BoxJ.c1 (h : BoxJ wr g j A m c) : wr.cell? ⟨g, 1, none⟩ = some (.int .i64 j.spec.nodes) := (cell_of_row wr g 1 _ _ (0, 0) h.at').trans rfl
theorem BoxJ.c2 (h : BoxJ wr g j A m c) : wr.cell? ⟨g, 2, none⟩ = some (.int .i64 j.spec.cores) := (cell_of_row wr g 2 _ _ (0, 0) h.at').trans rfl
theorem BoxJ.c3 (h : BoxJ wr g j A m c) : wr.cell? ⟨g, 3, none⟩ = some (.int .i64 j.spec.gpus) := (cell_of_row wr g 3 _ _ (0, 0) h.at').trans rfl
theorem BoxJ.c4 (h : BoxJ wr g j A m c) : wr.cell? ⟨g, 4, none⟩ = some (.string j.spec.tag) := (cell_of_row wr g 4 _ _ (0, 0) h.at').trans rfl
theorem BoxJ.c5 (h : BoxJ wr g j A m c) : wr.cell? ⟨g, 5, none⟩ = some (.bool j.spec.whole) := (cell_of_row wr g 5 _ _ (0, 0) h.at').trans rfl
theorem BoxJ.c6 (h : BoxJ wr g j A m c) : wr.cell? ⟨g, 6, none⟩ = some (.int .i64 j.spec.long) := (cell_of_row wr g 6 _ _ (0, 0) h.at').trans rfl
theorem BoxJ.c7 (h : BoxJ wr g j A m c) : wr.cell? ⟨g, 7, none⟩ = some (.int .i64 j.spec.prio) := (cell_of_row wr g 7 _ _ (0, 0) h.at').trans rfl
theorem BoxJ.c8 (h : BoxJ wr g j A m c) : wr.cell? ⟨g, 8, none⟩ = some (.slice A m c) := (cell_of_row wr g 8 _ _ (0, 0) h.at').trans rfl
theorem BoxJ.c9 (h : BoxJ wr g j A m c) : wr.cell? ⟨g, 9, none⟩ = some (.int .i64 j.state) := (cell_of_row wr g 9 _ _ (0, 0) h.at').trans rfl
theorem BoxJ.c10 (h : BoxJ wr g j A m c) : wr.cell? ⟨g, 10, none⟩ = some (.int .i64 j.came) := (cell_of_row wr g 10 _ _ (0, 0) h.at').trans rfl
theorem BoxJ.c11 (h : BoxJ wr g j A m c) : wr.cell? ⟨g, 11, none⟩ = some (.int .i64 j.frm) := (cell_of_row wr g 11 _ _ (0, 0) h.at').trans rfl
theorem BoxJ.c12 (h : BoxJ wr g j A m c) : wr.cell? ⟨g, 12, none⟩ = some (.int .i64 j.to) := (cell_of_row wr g 12 _ _ (0, 0) h.at').trans rfl
theorem BoxJ.frozen (h : BoxJ wr g j A m c) (k : Nat) : wr.frozen? ⟨g, k, none⟩ = false := frozen_of_row wr g k _ _ h.at'
/-- a cell of the block is set -/
theorem BoxJ.set {j' : Jb} {A' : Option Addr} {m' c' k : Nat} {v : Value} (h : BoxJ wr g j A m c) (e : (jA j A m c).setIfInBounds k v = jA j' A' m' c') : BoxJ (wr.setCell ⟨g, k, none⟩ v) g j' A' m' c' := by
  refine ⟨by simpa [World.setCell] using h.lt, ?_⟩
  show (wr.heap.modify g _)[g]? = _
  rw [Array.getElem?_modify, if_pos rfl, h.at']
  show some (Obj.cells ((jA j A m c).setIfInBounds k v) _) = _
  rw [e]; rfl
end

end Go.Proofs.Ytimgdlddfnglaaa

namespace Go.Proofs.Ytimgdlddfnglaaa
open Go.ChangeShapes Go.WideShapes Go.ChangeAt Go.RowKit Go.Deep

set_option maxRecDepth 100000 in
theorem open_job {H : Type} {enc : TypeId × Value → H} {W : World} {cs : List Value} {x : DataW H × List MemPlace} {fuel : Nat}
    (hl : cs.length = 13) (hf : DataW.trod enc Try.prog W 0 (fun _ => true) true fuel 30 cs = some x) : ∃ A m c j, cs = (jA j A m c).toList ∧ JAsk W A m c j := by
  obtain ⟨ys, n', hn', hy, hlen, hyl, hfs⟩ := DataW.trod_struct Try.underlying30 hf
  obtain ⟨v0, v1, v2, v3, v4, v5, v6, v7, v8, v9, v10, v11, v12, rfl⟩ : ∃ v0 v1 v2 v3 v4 v5 v6 v7 v8 v9 v10 v11 v12, cs = [v0, v1, v2, v3, v4, v5, v6, v7, v8, v9, v10, v11, v12] := by
    match cs, hl with
    | [a, b, c, d, e, f, g, h, i, j, k, l, m], _ => exact ⟨a, b, c, d, e, f, g, h, i, j, k, l, m, rfl⟩
  have ci : Try.prog.cellsOf 3 = 1 := by kernel_rfl
  have cs' : Try.prog.cellsOf 28 = 1 := by kernel_rfl
  have cl : Try.prog.cellsOf 2 = 1 := by kernel_rfl
  have cp : Try.prog.cellsOf 27 = 7 := by kernel_rfl
  have h0 : DataW.trod enc Try.prog W 0 (fun _ => true) true n' 3 (List.take (Try.prog.cellsOf 3) [v0, v1, v2, v3, v4, v5, v6, v7, v8, v9, v10, v11, v12]) = ys[0]? := hfs 0 _ rfl
  have h1 : DataW.trod enc Try.prog W 0 (fun _ => true) true n' 27 (List.take (Try.prog.cellsOf 27) [v1, v2, v3, v4, v5, v6, v7, v8, v9, v10, v11, v12]) = ys[1]? := hfs 1 _ rfl
  have h2 : DataW.trod enc Try.prog W 0 (fun _ => true) true n' 28 (List.take (Try.prog.cellsOf 28) [v8, v9, v10, v11, v12]) = ys[2]? := hfs 2 _ rfl
  have h3 : DataW.trod enc Try.prog W 0 (fun _ => true) true n' 3 (List.take (Try.prog.cellsOf 3) [v9, v10, v11, v12]) = ys[3]? := hfs 3 _ rfl
  have h4 : DataW.trod enc Try.prog W 0 (fun _ => true) true n' 2 (List.take (Try.prog.cellsOf 2) [v10, v11, v12]) = ys[4]? := hfs 4 _ rfl
  have h5 : DataW.trod enc Try.prog W 0 (fun _ => true) true n' 2 (List.take (Try.prog.cellsOf 2) [v11, v12]) = ys[5]? := hfs 5 _ rfl
  have h6 : DataW.trod enc Try.prog W 0 (fun _ => true) true n' 2 (List.take (Try.prog.cellsOf 2) [v12]) = ys[6]? := hfs 6 _ rfl
  rw [ci] at h0 h3
  rw [cp] at h1
  rw [cs'] at h2
  rw [cl] at h4 h5 h6
  obtain ⟨y0, y1, y2, y3, y4, y5, y6, rfl⟩ : ∃ y0 y1 y2 y3 y4 y5 y6, ys = [y0, y1, y2, y3, y4, y5, y6] := by
    match ys, hyl with
    | [a, b, c, d, e, f, g], _ => exact ⟨a, b, c, d, e, f, g, rfl⟩
  obtain ⟨z0, e0, _, w0⟩ := DataW.trod_int Try.underlying3 h0
  obtain ⟨s, e1, hs⟩ := open_spec rfl h1
  obtain ⟨A, m, c, xs, e2, hr, a1, a2, a3, a4⟩ := open_things h2
  obtain ⟨z3, e3, _, w3⟩ := DataW.trod_int Try.underlying3 h3
  obtain ⟨z4, e4, _, w4⟩ := DataW.trod_int Try.underlying2 h4
  obtain ⟨z5, e5, _, w5⟩ := DataW.trod_int Try.underlying2 h5
  obtain ⟨z6, e6, _, w6⟩ := DataW.trod_int Try.underlying2 h6
  simp at e0 e3 e4 e5 e6
  simp at e1
  obtain ⟨q1, q2, q3, q4, q5, q6, q7⟩ := e1
  subst e0 q1 q2 q3 q4 q5 q6 q7 e2 e3 e4 e5 e6
  exact ⟨A, m, c, ⟨z0, s, xs, z3, z4, z5, z6⟩, rfl, RN.ri hr, a1, a2, a3, hs, i64_wf w0, i64_wf w3, i64_wf w4, i64_wf w5, i64_wf w6, a4⟩
set_option maxRecDepth 100000 in
theorem open_J {H : Type} {enc : TypeId × Value → H} {W : World} {b0 : Nat} {v : Value} {d : DataW H} {ps : List MemPlace}
    (hval : Value.okWide Try.prog W .any b0 30 v) (h : DataW.Trod enc Try.prog W 0 (fun _ => true) true 30 v d ps) :
    ∃ A m c j, v = jV j A m c ∧ JAsk W A m c j := by
  obtain ⟨fuel, hf⟩ := h
  obtain ⟨cs, rfl, hsz⟩ := okWide_struct Try.underlying30 hval
  have c13 : Try.prog.cellsOf 30 = 13 := by kernel_rfl
  obtain ⟨A, m, c, j, hv, ha⟩ := open_job (by simpa [Value.cells] using hsz.trans c13) hf
  refine ⟨A, m, c, j, ?_, ha⟩
  show Value.agg cs = .agg (jA j A m c)
  congr 1
  apply Array.ext'
  simpa [Value.cells] using hv

end Go.Proofs.Ytimgdlddfnglaaa
