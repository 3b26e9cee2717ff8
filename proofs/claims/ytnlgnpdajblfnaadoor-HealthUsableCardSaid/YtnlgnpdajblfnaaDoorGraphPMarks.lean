/- Words for memory: an array of 256 bools in a block of its own (the program's marks): made, marked, loaded whole, asked at a place. -/
import Derived.Test.YtnlgnpdajblfnaaDoorGraphWords
import Derived.Laws.Rows
namespace Go.Proofs.YtnlgnpdajblfnaaDoor
open Go.RowKit

/-- the cells of marks -/
def marksA (p : Nat → Bool) : Array Value := ((List.range 256).map fun k => Value.bool (p k)).toArray
theorem marksA_size (p : Nat → Bool) : (marksA p).size = 256 := by unfold marksA; simp
theorem marksA_at (p : Nat → Bool) {k : Nat} (hk : k < 256) : (marksA p)[k]? = some (.bool (p k)) := by unfold marksA; simp [hk]
/-- one mark more, or less -/
def mset (p : Nat → Bool) (k : Nat) (b : Bool) : Nat → Bool := fun j => if j = k then b else p j
theorem mset_same (p : Nat → Bool) (k : Nat) (b : Bool) : mset p k b k = b := by unfold mset; rw [if_pos rfl]
theorem mset_other (p : Nat → Bool) {k j : Nat} (b : Bool) (h : j ≠ k) : mset p k b j = p j := by unfold mset; rw [if_neg h]
theorem marksA_set (p : Nat → Bool) (k : Nat) (b : Bool) : (marksA p).setIfInBounds k (.bool b) = marksA (mset p k b) := by
  apply Array.ext
  · simp [marksA_size]
  · intro j h1 h2
    rw [marksA_size] at h2
    have e2 := marksA_at (mset p k b) h2
    rw [Array.getElem?_eq_getElem (by rw [marksA_size]; exact h2)] at e2
    have e2' := Option.some.inj e2
    rw [e2', Array.getElem_setIfInBounds (by rw [marksA_size]; exact h2)]
    split
    · rename_i h; subst h; rw [mset_same]
    · rename_i h
      have e1 := marksA_at p h2
      rw [Array.getElem?_eq_getElem (by rw [marksA_size]; exact h2)] at e1
      rw [Option.some.inj e1, mset_other _ _ (fun e => h e.symm)]
theorem marksA_ext {p q : Nat → Bool} (h : ∀ k, k < 256 → p k = q k) : marksA p = marksA q := by
  unfold marksA
  congr 1
  apply List.map_congr_left
  intro k hk
  rw [h k (List.mem_range.1 hk)]

theorem marks_closed : (Tryd.prog.info? 49).map (fun i => (i.zero.map Value.cells, i.size)) = some (some (marksA fun _ => false), 256) := by kernel_rfl
theorem marks_size : (Tryd.prog.info? 49).map (·.size) = some 256 := by kernel_rfl

/-- marks in a new block, behind a world -/
structure Marks (W : World) (p : Nat → Bool) (wr : World) : Prop where
  bel : Below W.heap.size W wr
  at' : wr.heap[W.heap.size]? = some (.cells (marksA p) 49 (0, 0))
section
variable {W wr w' : World} {p : Nat → Bool} {k : Nat}
theorem Marks.lt (h : Marks W p wr) : W.heap.size < wr.heap.size := (Array.getElem?_eq_some_iff.1 h.at').1
theorem Marks.cell (h : Marks W p wr) (hk : k < 256) : wr.cell? ⟨W.heap.size, k, none⟩ = some (.bool (p k)) := by
  rw [cell_of_row _ _ _ _ _ _ h.at', marksA_at p hk]
theorem Marks.frozen (h : Marks W p wr) (k : Nat) : wr.frozen? ⟨W.heap.size, k, none⟩ = false := frozen_of_row _ _ _ _ _ h.at'
theorem Marks.next (h : Marks W p wr) (hb : Below wr.heap.size wr w') : Marks W p w' := ⟨h.bel.trans (hb.mono h.bel.size), (hb.block _ h.lt).trans h.at'⟩
theorem Marks.drewN (h : Marks W p wr) (q : Nat) : Marks W p (wr.drewN q) := h.next (bel_drew wr q)
theorem Marks.set (h : Marks W p wr) (b : Bool) : Marks W (mset p k b) (wr.setCell ⟨W.heap.size, k, none⟩ (.bool b)) := by
  refine ⟨h.bel.setCell (Nat.le_refl _) _, ?_⟩
  rw [heap_setCell_same wr W.heap.size k _ _ _ h.at', marksA_set]
theorem Marks.ext {q : Nat → Bool} (h : Marks W p wr) (he : ∀ k, k < 256 → p k = q k) : Marks W q wr := ⟨h.bel, by rw [h.at', marksA_ext he]⟩
theorem marks_made (W : World) : Marks W (fun _ => false) (W.alloc (.cells (marksA fun _ => false) 49)) :=
  ⟨(Below.refl _ _).alloc (Nat.le_refl _) _, heap_alloc_new W _⟩
theorem marks_boxed (W : World) (p : Nat → Bool) : Marks W p (W.alloc (.cells (marksA p) 49)) :=
  ⟨(Below.refl _ _).alloc (Nat.le_refl _) _, heap_alloc_new W _⟩
end

/-- 'var in marks' -/
theorem wpList_alloc_marks {ops : Array Oper} {rest : List Oper} {o : Oper} {a : Act} {Q : Exit → Act → World → Prop} {w : World} (hgd : o.guard = none) (ho : o.op = .alloc 49)
    (h : ∀ w', Marks w (fun _ => false) w' → wpList Tryd.prog ops Q rest (a.put o.dst (.pointer (some ⟨w.heap.size, 0, none⟩))) w') : wpList Tryd.prog ops Q (o :: rest) a w := by
  refine wpList_plain hgd fun K hK => ?_
  have hc := marks_closed
  cases hi : Tryd.prog.info? 49 with
  | none => rw [hi] at hc; cases hc
  | some i =>
    rw [hi] at hc
    simp only [Option.map_some, Option.some.injEq, Prod.mk.injEq] at hc
    obtain ⟨z, hz, hzc⟩ : ∃ z, i.zero = some z ∧ z.cells = marksA fun _ => false := by
      cases hz : i.zero with
      | none => rw [hz] at hc; cases hc.1
      | some z => rw [hz] at hc; exact ⟨z, rfl, Option.some.inj hc.1⟩
    have hrun : (Instr.alloc 49 true (.tuple #[])).run Tryd.prog w = .ok (.pointer (some ⟨w.heap.size, 0, none⟩)) (w.alloc (.cells (marksA fun _ => false) 49)) := by
      simp [Instr.alloc, zeroValue, typeInfo, hi, hz, newVar, newRow, hzc]
    unfold Oper.wp
    simp [execOp, ho, hrun, Result.andThen]
    exact hK _ _ (h _ (marks_made w))
/-- 'in', as a value -/
theorem wpList_load_marks {ops : Array Oper} {rest : List Oper} {o : Oper} {a : Act} {Q : Exit → Act → World → Prop} {W w : World} {p : Nat → Bool} (hgd : o.guard = none) (x : Operand) (ho : o.op = .load 49 x)
    (hm : Marks W p w) (hx : a.eval x = .pointer (some ⟨W.heap.size, 0, none⟩))
    (h : wpList Tryd.prog ops Q rest (a.put o.dst (.agg (marksA p))) w) : wpList Tryd.prog ops Q (o :: rest) a w :=
  wpList_load_row hgd _ x ho W.heap.size hx _ (marksA p) (0, 0) _ hm.at' Tryd.underlying49 rfl (by rw [marks_size, marksA_size]) h
/-- a mark of a value of marks -/
theorem run_ix_marks (p : Nat → Bool) {k : Nat} (hk : k < 256) (W : World) : (Instr.index 49 (.agg (marksA p)) (.int .i64 (k : Int))).run Tryd.prog W = .ok (.bool (p k)) W := by
  have h1 := marksA_at p hk
  have h2 : k < 256 := hk
  simp [Instr.index, run_underlying Tryd.underlying49, asIntOf, part, isAgg, run_underlying Tryd.underlying4, Tryd.sizeOf4, h1, h2]

end Go.Proofs.YtnlgnpdajblfnaaDoor
