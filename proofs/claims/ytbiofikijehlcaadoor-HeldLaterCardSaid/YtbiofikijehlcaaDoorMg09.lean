/- Plain facts: what is added, dropped, got, cut short, told by the place where a number stands; rows of cells, one more or one less. Words for memory: an array of 256 bools in a block of its own (what is busy): made, marked, loaded whole, asked at a place. What a graph of things is, and what is over what, in plain words: chains of parents. No program's text is walked here. The program's busy and Busy of layer 10. -/
import Derived.Test.YtbiofikijehlcaaDoorMg08
import Derived.Test.YtbiofikijehlcaaDoorMg07
import Derived.Laws.Rows
import Derived.Test.YtbiofikijehlcaaDoorMg06
import Derived.Test.YtbiofikijehlcaaDoorMg01
namespace Go.Proofs.YtbiofikijehlcaaDoor
open Go.RowKit

section
variable {l : Tb} {id z : Int} {K : Nat} {h : Hd}
theorem ids_lt (hi : l.Pairwise fun a b => a.id < b.id) {q r : Nat} (h1 : q < r) (h2 : r < l.length) : (l.getD q hd0).id < (l.getD r hd0).id := by
  have h3 := List.pairwise_iff_getElem.1 hi q r (by omega) h2 h1
  rwa [← getD_at, ← getD_at] at h3
theorem here_has (hi : l.Pairwise fun a b => a.id < b.id) (hs : Stands l id K) : hereB l id K = hasT l id := by
  unfold hereB
  rw [Bool.eq_iff_iff, Bool.and_eq_true, decide_eq_true_eq, decide_eq_true_eq, has_iff_id]
  constructor
  · rintro ⟨h1, h2⟩
    exact ⟨_, List.getElem_mem h1, by rw [← getD_at h1]; exact h2⟩
  · rintro ⟨x, hx, e⟩
    obtain ⟨q, hq, rfl⟩ := List.getElem_of_mem hx
    rw [← getD_at hq] at e
    have h1 : K ≤ q := by
      rcases Nat.lt_or_ge q K with h' | h'
      · have := hs.low q h'; omega
      · exact h'
    have hK : K < l.length := by omega
    refine ⟨hK, ?_⟩
    rcases Nat.eq_or_lt_of_le h1 with e1 | e1
    · subst e1; exact e
    · have h2 := hs.high K (Nat.le_refl _) hK
      have h3 := ids_lt hi e1 hq
      omega
theorem take_low (hs : Stands l id K) : ∀ x ∈ l.take K, x.id < id := by
  intro x hx
  obtain ⟨q, hq, rfl⟩ := List.getElem_of_mem hx
  rw [List.length_take] at hq
  have := hs.low q (by omega)
  rw [getD_at (show q < l.length by omega)] at this
  rwa [List.getElem_take]
theorem drop_high (hs : Stands l id K) (hn : ∀ x ∈ l, x.id ≠ id) : ∀ x ∈ l.drop K, id < x.id := by
  intro x hx
  have hm := hn x (List.mem_of_mem_drop hx)
  obtain ⟨q, hq, rfl⟩ := List.getElem_of_mem hx
  rw [List.length_drop] at hq
  rw [List.getElem_drop] at hm ⊢
  have := hs.high (K + q) (by omega) (by omega)
  rw [getD_at (show K + q < l.length by omega)] at this
  omega
theorem ins_at (hs : Stands l h.id K) (hn : ∀ x ∈ l, x.id ≠ h.id) : insT l h = l.take K ++ h :: l.drop K := by
  unfold insT
  have hl := take_low hs
  have hd := drop_high hs hn
  conv => lhs; rw [← List.take_append_drop K l]
  rw [List.filter_append, List.filter_append]
  rw [List.filter_eq_self.2 (fun x hx => decide_eq_true (hl x hx)), List.filter_eq_nil_iff.2 (fun x hx => by have := hd x hx; rw [decide_eq_true_eq]; omega), List.append_nil,
    List.filter_eq_nil_iff.2 (fun x hx => by have := hl x hx; rw [decide_eq_true_eq]; omega), List.nil_append, List.filter_eq_self.2 (fun x hx => decide_eq_true (hd x hx))]
theorem here_facts (hh : hereB l id K = true) : K < l.length ∧ (l.getD K hd0).id = id := by
  unfold hereB at hh
  rw [Bool.and_eq_true, decide_eq_true_eq, decide_eq_true_eq] at hh
  exact hh
theorem after_high (hi : l.Pairwise fun a b => a.id < b.id) (hh : hereB l id K = true) : ∀ x ∈ l.drop (K + 1), id < x.id := by
  obtain ⟨hK, e⟩ := here_facts hh
  intro x hx
  obtain ⟨q, hq, rfl⟩ := List.getElem_of_mem hx
  rw [List.length_drop] at hq
  rw [List.getElem_drop]
  have := ids_lt hi (show K < K + 1 + q by omega) (by omega)
  rw [getD_at (show K + 1 + q < l.length by omega)] at this
  omega
theorem split_at (hK : K < l.length) : l = l.take K ++ (l.getD K hd0 :: l.drop (K + 1)) := by
  rw [getD_at hK, ← List.drop_eq_getElem_cons hK, List.take_append_drop]
theorem drop_at (hi : l.Pairwise fun a b => a.id < b.id) (hs : Stands l id K) (hh : hereB l id K = true) : l.filter (fun x => x.id != id) = l.take K ++ l.drop (K + 1) := by
  obtain ⟨hK, e⟩ := here_facts hh
  have hl := take_low hs
  have hd := after_high hi hh
  conv => lhs; rw [split_at hK]
  rw [List.filter_append, List.filter_cons, if_neg (by rw [e]; simp), List.filter_eq_self.2 (fun x hx => bne_iff_ne.2 (by have := hl x hx; omega)), List.filter_eq_self.2 (fun x hx => bne_iff_ne.2 (by have := hd x hx; omega))]
theorem cut_at (hi : l.Pairwise fun a b => a.id < b.id) (hs : Stands l id K) (hh : hereB l id K = true) : l.map (shortH id z) = l.set K ⟨(l.getD K hd0).id, (l.getD K hd0).things, (l.getD K hd0).frm, z⟩ := by
  obtain ⟨hK, e⟩ := here_facts hh
  have hl := take_low hs
  have hd := after_high hi hh
  conv => lhs; rw [split_at hK]
  rw [List.map_append, List.map_cons]
  rw [List.map_congr_left (l := l.take K) (g := fun x => x) (fun x hx => by unfold shortH; rw [if_neg (by have := hl x hx; omega)]), List.map_congr_left (l := l.drop (K + 1)) (g := fun x => x) (fun x hx => by unfold shortH; rw [if_neg (by have := hd x hx; omega)]), List.map_id', List.map_id', show shortH id z (l.getD K hd0) = ⟨(l.getD K hd0).id, (l.getD K hd0).things, (l.getD K hd0).frm, z⟩ by unfold shortH; rw [if_pos e]]
  obtain ⟨y, hy⟩ : ∃ y : Hd, (⟨(l.getD K hd0).id, (l.getD K hd0).things, (l.getD K hd0).frm, z⟩ : Hd) = y := ⟨_, rfl⟩
  rw [hy]
  rw [List.set_eq_take_append_cons_drop, if_pos hK]
theorem get_at (hr : rightT l = true) (hh : hereB l id K = true) : getT l id = l.getD K hd0 := by
  obtain ⟨hK, e⟩ := here_facts hh
  rw [← e]
  exact get_is hr (by rw [getD_at hK]; exact List.getElem_mem hK)
end
section
variable {base : Nat} {w w6 w7 : World} {v v' : Value} {l l' : Tb} {n : Nat} {fl' : List Value}
/-- a row behind an Insert or a Delete, as a table -/
theorem ins_on (hb : Below w.heap.size w w6) (hq : w7.ownsRow w.heap.size 37 4 v' n fl') (h2 : Below w.heap.size w6 w7) (hk : Keeps w6 v w7 v') (hl : l'.length = n)
    (hE : ∀ j x, l'[j]? = some x → EH w6 (fun b => b < w6.heap.size ∧ v.ownBlock ≠ some b) x ((fl'.drop (j * 4)).take 4)) : ON EH 4 37 w v' l' w7 := by
  refine ⟨fl', by rw [hl]; exact hq, hb.trans h2, fun j x hx => eh_steady.keep (hE j x hx) (fun b hb => hk.block b hb.1 hb.2) (fun b hb => ⟨Nat.lt_of_lt_of_le hb.1 hk.size, fun e => ?_⟩)⟩
  rcases hk.own with h' | h'
  · exact hb.2 (h'.symm.trans e)
  · have := h' b e; omega
theorem take_flat {fl : List Value} {i j : Nat} (h : j < i) : ((fl.take (i * 4)).drop (j * 4)).take 4 = (fl.drop (j * 4)).take 4 := by
  rw [List.drop_take, List.take_take, Nat.min_eq_left (by omega)]
theorem ins_cells {fl : List Value} {v0 v1 v2 v3 : Value} {h : Hd} {K : Nat} {ok : Nat → Prop} (hfl : fl.length = l.length * 4) (hK : K ≤ l.length) (hE : ∀ j x, l[j]? = some x → EH w6 ok x ((fl.drop (j * 4)).take 4)) (hh : EH w6 ok h [v0, v1, v2, v3]) :
    ∀ j x, (l.take K ++ h :: l.drop K)[j]? = some x → EH w6 ok x (((fl.take (K * 4) ++ ([v0, v1, v2, v3] ++ fl.drop (K * 4))).drop (j * 4)).take 4) := by
  intro j x hx
  have hlt : (l.take K).length = K := by rw [List.length_take]; omega
  have hft : (fl.take (K * 4)).length = K * 4 := by rw [List.length_take, hfl]; omega
  rcases Nat.lt_trichotomy j K with hj | hj | hj
  · rw [List.getElem?_append_left (by omega), List.getElem?_take_of_lt hj] at hx
    have e : ((fl.take (K * 4) ++ ([v0, v1, v2, v3] ++ fl.drop (K * 4))).drop (j * 4)).take 4 = (fl.drop (j * 4)).take 4 := by
      rw [List.drop_append_of_le_length (by omega), List.take_append_of_le_length (by rw [List.length_drop]; omega), take_flat hj]
    rw [e]
    exact hE j x hx
  · subst hj
    rw [List.getElem?_append_right (by omega), hlt, Nat.sub_self] at hx
    have hx' : h = x := by simpa using hx
    subst hx'
    have e : ((fl.take (j * 4) ++ ([v0, v1, v2, v3] ++ fl.drop (j * 4))).drop (j * 4)).take 4 = [v0, v1, v2, v3] := by
      rw [List.drop_append_of_le_length (by omega), List.drop_of_length_le (by omega), List.nil_append]
      rfl
    rw [e]
    exact hh
  · rw [List.getElem?_append_right (by omega), hlt] at hx
    obtain ⟨d, rfl⟩ : ∃ d, j = K + 1 + d := ⟨j - (K + 1), by omega⟩
    rw [show K + 1 + d - K = d + 1 by omega, List.getElem?_cons_succ, List.getElem?_drop] at hx
    have e : ((fl.take (K * 4) ++ ([v0, v1, v2, v3] ++ fl.drop (K * 4))).drop ((K + 1 + d) * 4)).take 4 = (fl.drop ((K + d) * 4)).take 4 := by
      rw [List.drop_append, List.drop_of_length_le (by omega), List.nil_append, hft, List.drop_append, List.drop_of_length_le (by show 4 ≤ _; omega), List.nil_append, List.drop_drop]
      congr 2
      show K * 4 + ((K + 1 + d) * 4 - K * 4 - 4) = (K + d) * 4
      omega
    rw [e]
    exact hE (K + d) x hx
theorem del_cells {fl : List Value} {K : Nat} {ok : Nat → Prop} (hfl : fl.length = l.length * 4) (hK : K < l.length) (hE : ∀ j x, l[j]? = some x → EH w6 ok x ((fl.drop (j * 4)).take 4)) :
    ∀ j x, (l.take K ++ l.drop (K + 1))[j]? = some x → EH w6 ok x (((fl.take (K * 4) ++ fl.drop ((K + 1) * 4)).drop (j * 4)).take 4) := by
  intro j x hx
  have hlt : (l.take K).length = K := by rw [List.length_take]; omega
  have hft : (fl.take (K * 4)).length = K * 4 := by rw [List.length_take, hfl]; omega
  rcases Nat.lt_or_ge j K with hj | hj
  · rw [List.getElem?_append_left (by omega), List.getElem?_take_of_lt hj] at hx
    have e : ((fl.take (K * 4) ++ fl.drop ((K + 1) * 4)).drop (j * 4)).take 4 = (fl.drop (j * 4)).take 4 := by
      rw [List.drop_append_of_le_length (by omega), List.take_append_of_le_length (by rw [List.length_drop]; omega), take_flat hj]
    rw [e]
    exact hE j x hx
  · rw [List.getElem?_append_right (by omega), hlt, List.getElem?_drop] at hx
    have e : ((fl.take (K * 4) ++ fl.drop ((K + 1) * 4)).drop (j * 4)).take 4 = (fl.drop ((K + 1 + (j - K)) * 4)).take 4 := by
      rw [List.drop_append, List.drop_of_length_le (by omega), List.nil_append, hft, List.drop_drop]
      congr 2
      omega
    rw [e]
    exact hE _ x hx
end

end Go.Proofs.YtbiofikijehlcaaDoor

namespace Go.Proofs.YtbiofikijehlcaaDoor
open Go.RowKit

/-- the cells of marks -/
def marksA (p : Nat → Bool) : Array Value := ((List.range 256).map fun k => Value.bool (p k)).toArray
theorem marksA_size (p : Nat → Bool) : (marksA p).size = 256 := by unfold marksA; simp
theorem marksA_at (p : Nat → Bool) {k : Nat} (hk : k < 256) : (marksA p)[k]? = some (.bool (p k)) := by unfold marksA; simp [hk]
/-- one mark more, or less -/
def mset (p : Nat → Bool) (k : Nat) (b : Bool) : Nat → Bool := fun j => if j = k then b else p j
theorem mset_same (p : Nat → Bool) (k : Nat) (b : Bool) : mset p k b k = b := by unfold mset; rw [if_pos rfl]
theorem mset_other (p : Nat → Bool) {k j : Nat} (b : Bool) (h : j ≠ k) : mset p k b j = p j := by unfold mset; rw [if_neg h]
theorem marksA_set (p : Nat → Bool) (k : Nat) (b : Bool) : (marksA p).setIfInBounds k (.bool b) = marksA (mset p k b) := by
  apply Array.ext
  · simp [marksA_size]
  · intro j h1 h2
    rw [marksA_size] at h2
    have e2 := marksA_at (mset p k b) h2
    rw [Array.getElem?_eq_getElem (by rw [marksA_size]; exact h2)] at e2
    have e2' := Option.some.inj e2
    rw [e2', Array.getElem_setIfInBounds (by rw [marksA_size]; exact h2)]
    split
    · rename_i h; subst h; rw [mset_same]
    · rename_i h
      have e1 := marksA_at p h2
      rw [Array.getElem?_eq_getElem (by rw [marksA_size]; exact h2)] at e1
      rw [Option.some.inj e1, mset_other _ _ (fun e => h e.symm)]
theorem marksA_ext {p q : Nat → Bool} (h : ∀ k, k < 256 → p k = q k) : marksA p = marksA q := by
  unfold marksA
  congr 1
  apply List.map_congr_left
  intro k hk
  rw [h k (List.mem_range.1 hk)]

theorem marks_closed : (Tryd.prog.info? 58).map (fun i => (i.zero.map Value.cells, i.size)) = some (some (marksA fun _ => false), 256) := by kernel_rfl
theorem marks_size : (Tryd.prog.info? 58).map (·.size) = some 256 := by kernel_rfl

/-- marks in a new block, behind a world -/
structure Marks (W : World) (p : Nat → Bool) (wr : World) : Prop where
  bel : Below W.heap.size W wr
  at' : wr.heap[W.heap.size]? = some (.cells (marksA p) 58 (0, 0))
section
variable {W wr w' : World} {p : Nat → Bool} {k : Nat}
theorem Marks.lt (h : Marks W p wr) : W.heap.size < wr.heap.size := (Array.getElem?_eq_some_iff.1 h.at').1
theorem Marks.cell (h : Marks W p wr) (hk : k < 256) : wr.cell? ⟨W.heap.size, k, none⟩ = some (.bool (p k)) := by
  rw [cell_of_row _ _ _ _ _ _ h.at', marksA_at p hk]
theorem Marks.frozen (h : Marks W p wr) (k : Nat) : wr.frozen? ⟨W.heap.size, k, none⟩ = false := frozen_of_row _ _ _ _ _ h.at'
theorem Marks.next (h : Marks W p wr) (hb : Below wr.heap.size wr w') : Marks W p w' := ⟨h.bel.trans (hb.mono h.bel.size), (hb.block _ h.lt).trans h.at'⟩
theorem Marks.drewN (h : Marks W p wr) (q : Nat) : Marks W p (wr.drewN q) := h.next (bel_drew wr q)
theorem Marks.set (h : Marks W p wr) (b : Bool) : Marks W (mset p k b) (wr.setCell ⟨W.heap.size, k, none⟩ (.bool b)) := by
  refine ⟨h.bel.setCell (Nat.le_refl _) _, ?_⟩
  rw [heap_setCell_same wr W.heap.size k _ _ _ h.at', marksA_set]
theorem Marks.ext {q : Nat → Bool} (h : Marks W p wr) (he : ∀ k, k < 256 → p k = q k) : Marks W q wr := ⟨h.bel, by rw [h.at', marksA_ext he]⟩
theorem marks_made (W : World) : Marks W (fun _ => false) (W.alloc (.cells (marksA fun _ => false) 58)) :=
  ⟨(Below.refl _ _).alloc (Nat.le_refl _) _, heap_alloc_new W _⟩
theorem marks_boxed (W : World) (p : Nat → Bool) : Marks W p (W.alloc (.cells (marksA p) 58)) :=
  ⟨(Below.refl _ _).alloc (Nat.le_refl _) _, heap_alloc_new W _⟩
end

/-- 'var in marks' -/
theorem wpList_alloc_marks {ops : Array Oper} {rest : List Oper} {o : Oper} {a : Act} {Q : Exit → Act → World → Prop} {w : World} (hgd : o.guard = none) (ho : o.op = .alloc 58)
    (h : ∀ w', Marks w (fun _ => false) w' → wpList Tryd.prog ops Q rest (a.put o.dst (.pointer (some ⟨w.heap.size, 0, none⟩))) w') : wpList Tryd.prog ops Q (o :: rest) a w := by
  refine wpList_plain hgd fun K hK => ?_
  have hc := marks_closed
  cases hi : Tryd.prog.info? 58 with
  | none => rw [hi] at hc; cases hc
  | some i =>
    rw [hi] at hc
    simp only [Option.map_some, Option.some.injEq, Prod.mk.injEq] at hc
    obtain ⟨z, hz, hzc⟩ : ∃ z, i.zero = some z ∧ z.cells = marksA fun _ => false := by
      cases hz : i.zero with
      | none => rw [hz] at hc; cases hc.1
      | some z => rw [hz] at hc; exact ⟨z, rfl, Option.some.inj hc.1⟩
    have hrun : (Instr.alloc 58 true (.tuple #[])).run Tryd.prog w = .ok (.pointer (some ⟨w.heap.size, 0, none⟩)) (w.alloc (.cells (marksA fun _ => false) 58)) := by
      simp [Instr.alloc, zeroValue, typeInfo, hi, hz, newVar, newRow, hzc]
    unfold Oper.wp
    simp [execOp, ho, hrun, Result.andThen]
    exact hK _ _ (h _ (marks_made w))
/-- 'in', as a value -/
theorem wpList_load_marks {ops : Array Oper} {rest : List Oper} {o : Oper} {a : Act} {Q : Exit → Act → World → Prop} {W w : World} {p : Nat → Bool} (hgd : o.guard = none) (x : Operand) (ho : o.op = .load 58 x)
    (hm : Marks W p w) (hx : a.eval x = .pointer (some ⟨W.heap.size, 0, none⟩))
    (h : wpList Tryd.prog ops Q rest (a.put o.dst (.agg (marksA p))) w) : wpList Tryd.prog ops Q (o :: rest) a w :=
  wpList_load_row hgd _ x ho W.heap.size hx _ (marksA p) (0, 0) _ hm.at' Tryd.underlying58 rfl (by rw [marks_size, marksA_size]) h
/-- a mark of a value of marks -/
theorem run_ix_marks (p : Nat → Bool) {k : Nat} (hk : k < 256) (W : World) : (Instr.index 58 (.agg (marksA p)) (.int .i64 (k : Int))).run Tryd.prog W = .ok (.bool (p k)) W := by
  have h1 := marksA_at p hk
  have h2 : k < 256 := hk
  simp [Instr.index, run_underlying Tryd.underlying58, asIntOf, part, isAgg, run_underlying Tryd.underlying4, Tryd.sizeOf4, h1, h2]

end Go.Proofs.YtbiofikijehlcaaDoor

namespace Go.Proofs.YtbiofikijehlcaaDoor

/-- a thing: its kind, what it is part of, its tag -/
structure Th where
  kind : Int
  up : Int
  tag : ByteArray
def th0 : Th := ⟨0, 0, ⟨#[]⟩⟩
abbrev Gr := List Th
def gk (g : Gr) (i : Nat) : Int := (g.getD i th0).kind
def gu (g : Gr) (i : Nat) : Int := (g.getD i th0).up
def gt (g : Gr) (i : Nat) : ByteArray := (g.getD i th0).tag

def tagC (c : UInt8) : Bool := (97 ≤ c.toNat && c.toNat ≤ 122) || (48 ≤ c.toNat && c.toNat ≤ 57)
def tagB (s : ByteArray) : Bool := s.data.toList.all tagC && decide (s.size ≤ 16)
/-- thing i stands where it may -/
def okT (g : Gr) (i : Nat) : Prop :=
  if i = 0 then gk g 0 = 0 ∧ gu g 0 = -1 ∧ (gt g 0).size = 0 else
    0 ≤ gu g i ∧ gu g i < i ∧ ((gt g i).size = 0 ∨ gk g i = 2) ∧ tagB (gt g i) = true ∧
      ((gk g i = 1 ∧ gk g (gu g i).toNat = 0) ∨ (gk g i = 2 ∧ gk g (gu g i).toNat < 2) ∨ ((gk g i = 3 ∨ gk g i = 4) ∧ gk g (gu g i).toNat = 2))
instance (g : Gr) (i : Nat) : Decidable (okT g i) := by unfold okT; infer_instance
def rightG (g : Gr) : Bool := decide (g ≠ [] ∧ g.length ≤ 256 ∧ ∀ i, i < g.length → okT g i)

/-- the parent's number -/
def par (g : Gr) (k : Nat) : Nat := (gu g k).toNat
/-- is n the thing k, or is k a part of it: up the chain, as far as n -/
def overF (g : Gr) (n : Nat) : Nat → Nat → Bool
  | 0, k => k == n
  | f + 1, k => if n < k then overF g n f (par g k) else k == n
def overG (g : Gr) (n k : Nat) : Bool := overF g n k k

structure RightG (g : Gr) : Prop where
  pos : 0 < g.length
  few : g.length ≤ 256
  top : gk g 0 = 0 ∧ gu g 0 = -1
  up : ∀ i, 0 < i → i < g.length → 0 ≤ gu g i ∧ par g i < i
  kind : ∀ i, 0 < i → i < g.length → (gk g i = 1 ∧ gk g (par g i) = 0) ∨ (gk g i = 2 ∧ gk g (par g i) < 2) ∨ ((gk g i = 3 ∨ gk g i = 4) ∧ gk g (par g i) = 2)
theorem rightG_is {g : Gr} (h : rightG g = true) : RightG g := by
  unfold rightG at h
  rw [decide_eq_true_eq] at h
  obtain ⟨h1, h2, h3⟩ := h
  have h0 := h3 0 (List.length_pos_iff.2 h1)
  unfold okT at h0
  rw [if_pos rfl] at h0
  refine ⟨List.length_pos_iff.2 h1, h2, ⟨h0.1, h0.2.1⟩, fun i hi hl => ?_, fun i hi hl => ?_⟩
  all_goals
    have := h3 i hl
    unfold okT at this
    rw [if_neg (by omega)] at this
  · unfold par; omega
  · exact this.2.2.2.2
section
variable {g : Gr} (hg : RightG g) {n k m : Nat}
include hg
theorem RightG.kinds (hk : k < g.length) : 0 ≤ gk g k ∧ gk g k ≤ 4 := by
  rcases Nat.eq_zero_or_pos k with h | h
  · subst h; have := hg.top.1; omega
  · rcases hg.kind k h hk with h | h | h <;> omega
/-- more steps than are needed change nothing -/
theorem overF_more : ∀ (f : Nat) (k : Nat), k < g.length → k ≤ f → overF g n f k = overF g n k k := by
  have hg' := hg
  intro f
  induction f using Nat.strongRecOn with
  | _ f ih =>
    intro k hk hf
    rcases Nat.eq_zero_or_pos k with h | h
    · subst h
      cases f with
      | zero => rfl
      | succ f => show (if n < 0 then _ else (0 == n)) = (0 == n); rw [if_neg (by omega)]
    · obtain ⟨f', rfl⟩ : ∃ f', f = f' + 1 := ⟨f - 1, by omega⟩
      obtain ⟨k', rfl⟩ : ∃ k', k = k' + 1 := ⟨k - 1, by omega⟩
      have hp := (hg.up (k' + 1) (by omega) hk).2
      show (if n < k' + 1 then overF g n f' (par g (k' + 1)) else _) = (if n < k' + 1 then overF g n k' (par g (k' + 1)) else _)
      split
      · rw [ih f' (by omega) _ (by omega) (by omega)]
        by_cases hkf : k' = f'
        · subst hkf; rw [ih k' (by omega) _ (by omega) (by omega)]
        · rw [ih k' (by omega) _ (by omega) (by omega)]
      · rfl
/-- up one step -/
theorem over_up (hk : k < g.length) (h : n < k) : overG g n k = overG g n (par g k) := by
  have hp := (hg.up k (by omega) hk).2
  obtain ⟨k', rfl⟩ : ∃ k', k = k' + 1 := ⟨k - 1, by omega⟩
  show (if n < k' + 1 then overF g n k' (par g (k' + 1)) else _) = _
  rw [if_pos h]
  exact overF_more hg k' (par g (k' + 1)) (by omega) (by omega)
omit hg in
theorem over_end (h : ¬ n < k) : overG g n k = (k == n) := by
  unfold overG
  cases k with
  | zero => rfl
  | succ k => show (if n < k + 1 then _ else _) = _; rw [if_neg h]
omit hg in
theorem over_self : overG g n n = true := by rw [over_end (by omega)]; simp
omit hg in
theorem over_le (h : overG g n k = true) : n ≤ k := by
  by_cases hnk : n < k
  · omega
  · rw [over_end hnk] at h; simp at h; omega
theorem over_zero : ∀ (k : Nat), k < g.length → overG g 0 k = true := by
  intro k
  induction k using Nat.strongRecOn with
  | _ k ih =>
    intro hk
    rcases Nat.eq_zero_or_pos k with h | h
    · subst h; exact over_self
    · rw [over_up hg hk h]
      have := (hg.up k h hk).2
      exact ih _ this (by omega)
/-- what is part of a part is a part -/
theorem over_trans : ∀ (k : Nat), k < g.length → overG g m k = true → overG g n m = true → overG g n k = true := by
  intro k
  induction k using Nat.strongRecOn with
  | _ k ih =>
    intro hk h1 h2
    by_cases hmk : m < k
    · have hp := (hg.up k (by omega) hk).2
      rw [over_up hg hk hmk] at h1
      have hnm := over_le h2
      have hmp := over_le h1
      rw [over_up hg hk (by omega)]
      exact ih _ hp (by omega) h1 h2
    · rw [over_end hmk] at h1
      simp at h1
      subst h1
      exact h2
/-- of two that are over one thing, one is over the other -/
theorem over_chain : ∀ (k : Nat), k < g.length → overG g n k = true → overG g m k = true → n ≤ m → overG g n m = true := by
  intro k
  induction k using Nat.strongRecOn with
  | _ k ih =>
    intro hk h1 h2 hnm
    by_cases hmk : m < k
    · have hp := (hg.up k (by omega) hk).2
      rw [over_up hg hk hmk] at h2
      rw [over_up hg hk (by omega)] at h1
      exact ih _ hp (by omega) h1 h2 hnm
    · rw [over_end hmk] at h2
      simp at h2
      subst h2
      exact h1
end

/-! sets of things -/
def numsF (p : Nat → Bool) (n : Nat) : List Int := ((List.range n).filter p).map Int.ofNat
theorem mem_numsF {p : Nat → Bool} {n : Nat} {x : Int} : x ∈ numsF p n ↔ ∃ k : Nat, k < n ∧ p k = true ∧ x = k := by
  unfold numsF
  rw [List.mem_map]
  constructor
  · rintro ⟨k, hk, rfl⟩
    rw [List.mem_filter, List.mem_range] at hk
    exact ⟨k, hk.1, hk.2, rfl⟩
  · rintro ⟨k, hk, hp, rfl⟩
    exact ⟨k, by rw [List.mem_filter, List.mem_range]; exact ⟨hk, hp⟩, rfl⟩
theorem mem_numsF_nat {p : Nat → Bool} {n k : Nat} : (k : Int) ∈ numsF p n ↔ k < n ∧ p k = true := by
  rw [mem_numsF]
  constructor
  · rintro ⟨j, h1, h2, h3⟩
    obtain rfl : k = j := by omega
    exact ⟨h1, h2⟩
  · rintro ⟨h1, h2⟩
    exact ⟨k, h1, h2, rfl⟩
theorem numsF_succ (p : Nat → Bool) (n : Nat) : numsF p (n + 1) = numsF p n ++ (if p n = true then [(n : Int)] else []) := by
  unfold numsF
  rw [List.range_succ, List.filter_append, List.map_append]
  congr 1
  by_cases h : p n = true
  · rw [if_pos h]; simp [h]
  · rw [if_neg h]; simp [h]
theorem numsF_yes {p : Nat → Bool} {n : Nat} (h : p n = true) : numsF p (n + 1) = numsF p n ++ [(n : Int)] := by rw [numsF_succ, if_pos h]
theorem numsF_no {p : Nat → Bool} {n : Nat} (h : p n = false) : numsF p (n + 1) = numsF p n := by rw [numsF_succ, if_neg (by rw [h]; simp), List.append_nil]
theorem numsF_len (p : Nat → Bool) (n : Nat) : (numsF p n).length ≤ n := by
  unfold numsF
  rw [List.length_map]
  have := List.length_filter_le p (List.range n)
  rw [List.length_range] at this
  exact this
theorem numsF_pick (p : Nat → Bool) (n : Nat) : ∀ (_ : n ≤ 256), numsF p n = pickN (fun x => decide (0 ≤ x) && p x.toNat) 0 n := by
  intro hn
  induction n with
  | zero => rfl
  | succ n ih =>
    rw [numsF_succ, pickN_snoc, ih (by omega)]
    simp
theorem numsF_right (p : Nat → Bool) {n : Nat} (hn : n ≤ 256) : rightB (numsF p n) = true := by
  rw [numsF_pick p n hn]; exact right_pickN _ n 0 (by omega)
theorem numsF_ext {p q : Nat → Bool} {n : Nat} (h : ∀ k, k < n → p k = q k) : numsF p n = numsF q n := by
  unfold numsF
  congr 1
  exact List.filter_congr fun k hk => h k (List.mem_range.1 hk)

/-- thing n and all that is part of it; n and what it is part of -/
def underL (g : Gr) (n : Int) : List Int := if rightG g = true ∧ 0 ≤ n ∧ n < g.length then numsF (overG g n.toNat) g.length else []
def aboveL (g : Gr) (n : Int) : List Int := if rightG g = true ∧ 0 ≤ n ∧ n < g.length then numsF (fun k => overG g k n.toNat) (n.toNat + 1) else []
def nodeG (g : Gr) (n : Int) : Int :=
  if rightG g = true ∧ 0 ≤ n ∧ n < g.length then (if gk g n.toNat = 2 then n else if 2 < gk g n.toNat then gu g n.toNat else -1) else -1
def nodesL (g : Gr) : List Int := if rightG g = true then numsF (fun k => gk g k == 2) g.length else []
/-- how many of the first n things are in the set and of this kind -/
def cntK (g : Gr) (l : List Int) (c : Int) (n : Nat) : Nat := ((List.range n).filter fun k : Nat => hasB l (k : Int) && gk g k == c).length
def kc (g : Gr) (l : List Int) (c : Int) : Int := if rightG g = true then (cntK g l c g.length : Int) else 0
theorem cntK_succ (g : Gr) (l : List Int) (c : Int) (n : Nat) : cntK g l c (n + 1) = cntK g l c n + (if hasB l n = true ∧ gk g n = c then 1 else 0) := by
  unfold cntK
  rw [List.range_succ, List.filter_append, List.length_append]
  congr 1
  by_cases h : hasB l n = true ∧ gk g n = c
  · rw [if_pos h]; simp [h.1, h.2]
  · rw [if_neg h]
    rw [List.filter_eq_nil_iff.2]
    · rfl
    · intro x hx
      simp at hx
      subst hx
      intro h'
      rw [Bool.and_eq_true, beq_iff_eq] at h'
      exact h h'
theorem cntK_le (g : Gr) (l : List Int) (c : Int) (n : Nat) : cntK g l c n ≤ n := by
  unfold cntK
  have := List.length_filter_le (fun k : Nat => hasB l (k : Int) && gk g k == c) (List.range n)
  rw [List.length_range] at this
  exact this
/-- is a thing above one of the set? -/
def anyOver (g : Gr) (l : List Int) (n : Nat) : Bool := l.any fun x => overG g n x.toNat
def wholeOk (g : Gr) (l : List Int) : Bool := rightG g && rightB l && decide (∀ x ∈ l, x < g.length)
def wholeL (g : Gr) (l : List Int) : List Int := if wholeOk g l = true then numsF (anyOver g l) g.length else []

end Go.Proofs.YtbiofikijehlcaaDoor

namespace Go.Proofs.YtbiofikijehlcaaDoor
open Go.RowKit

theorem append_EI {P : Program} {ops : Array Oper} {rest : List Oper} {o : Oper} {a : Act} {Q : Exit → Act → World → Prop} {w wr : World} {v : Value} {xs : List Int} (hgd : o.guard = none) (s x : Operand) (ty t : TypeId)
    (ho : o.op = .call { callee := .builtin .append, args := #[s, x], argTypes := #[ty, ty] })
    (h : ON EI 1 t w v xs wr) (i : TypeInfo) (ht : P.underlying ty = some (.slice t)) (hi : P.info? t = some i) (hz : i.zero = some (.int .i64 0)) (hsize : i.size = 1) (hby : i.bytes = 8)
    (hs : a.eval s = v) (x0 : Int) (hx : a.eval x = .slice (some ⟨wr.heap.size, 0, none⟩) 1 1) (hl : xs.length ≤ 1000)
    (hk : ∀ v' w', ON EI 1 t w v' (xs ++ [x0]) w' → wpList P ops Q rest (a.put o.dst v') w') : wpList P ops Q (o :: rest) a (wr.alloc (.cells #[.int .i64 x0] t)) :=
  wpList_append_ON hgd s x ty ho ei_steady h i (.int .i64 0) 8 ht hi hz hsize hby rfl (by decide) hs x0 #[.int .i64 x0] hx rfl (by intro u hu; simp at hu; subst hu; rfl) rfl (by unfold maxLen; omega) (by omega) hk
theorem EH.things {w : World} {ok : Nat → Prop} {x : Hd} {A : Option Addr} {m c : Nat} {a b d : Value} (h : EH w ok x [a, .slice A m c, b, d]) : RN EI 1 w ok A m x.things := by
  obtain ⟨A', m', c', hv, hr, _⟩ := h
  injection hv with _ hv
  injection hv with hv _
  injection hv with e1 e2 e3
  subst e1 e2 e3
  exact hr
theorem busyP_succ {l : Tb} {k : Nat} (hk : k < l.length) (a b n : Int) : busyP (l.take (k + 1)) a b n = (busyP (l.take k) a b n || (meetsZ (l.getD k hd0).frm (l.getD k hd0).to a b && (l.getD k hd0).things.contains n)) := by
  unfold busyP
  rw [List.take_succ_eq_append_getElem hk, List.any_append, getD_at hk]
  simp
theorem take_contains {xs : List Int} {j : Nat} (hj : j < xs.length) (n : Int) : (xs.take (j + 1)).contains n = ((xs.take j).contains n || (n == xs.getD j 0)) := by
  rw [List.take_succ_eq_append_getElem hj, z_at hj, Bool.eq_iff_iff, Bool.or_eq_true, List.contains_iff_mem, List.contains_iff_mem, List.mem_append, List.mem_singleton, beq_iff_eq]
theorem busy_list {l : Tb} (hr : rightT l = true) (a b : Int) : numsF (fun i => busyP l a b (i : Int)) 256 = busyT l a b := by
  unfold busyT pickL
  rw [if_pos hr, numsF_pick _ _ (Nat.le_refl _)]
  refine right_ext (right_pickL (fun x => decide (0 ≤ x) && busyP l a b (x.toNat : Int))) (right_pickL (busyP l a b)) fun n => ?_
  show n ∈ pickL _ ↔ n ∈ pickL _
  rw [mem_pickL, mem_pickL]
  constructor
  · rintro ⟨h1, h2, h3⟩
    rw [Bool.and_eq_true, decide_eq_true_eq] at h3
    rw [Int.toNat_of_nonneg h1] at h3
    exact ⟨h1, h2, h3.2⟩
  · rintro ⟨h1, h2, h3⟩
    refine ⟨h1, h2, ?_⟩
    rw [Bool.and_eq_true, decide_eq_true_eq, Int.toNat_of_nonneg h1]
    exact ⟨h1, h3⟩

set_option maxRecDepth 100000 in
set_option maxHeartbeats 8000000 in
theorem busy_any (A : Option Addr) (n c : Nat) (l : Tb) (a b : Int) (w : World) (hr : RT w w.heap.size A n l) (hf : FewT l) (hrt : rightT l = true) :
    Calls Tryd.prog 20 #[.slice A n c, .int .i64 a, .int .i64 b] w (IPost (busyT l a b) w) := by
  obtain ⟨i0, hi0, hz0, hz1, hz2⟩ := info_parts int_info
  have HL := Lib.hid hr.len
  have HR := Lib.hid hr
  have hn : n ≤ 100 := by rw [← hr.len]; exact hf.1
  have HF := Lib.hid hf
  have HRT := Lib.hid (rightT_is.1 hrt)
  have HE := Lib.hid (busy_list hrt a b)
  rw [← HE.out]
  obtain ⟨p, hp⟩ : ∃ p : Nat → Bool, (fun i : Nat => busyP l a b (i : Int)) = p := ⟨_, rfl⟩
  have HP : Hid (∀ i : Nat, p i = busyP l a b (i : Int)) := Lib.hid (fun i => by rw [← hp])
  rw [hp]
  clear hr hf hrt hp
  go_enter Tryd.func20, Tryd.ntmps20
  go_wp2_with (with_reducible refine wpList_alloc_marks rfl rfl ?_; intro w2 hm; refine Hid.out ?_)
  refine Lib.hid ?_
  have HM2 := Lib.hid hm
  clear hm
  go_wp2
  go_loopw [17] (fun i wr => ∃ k : Nat, k ≤ n ∧ i = .int .i64 k ∧ Marks w (fun i => busyP (l.take k) a b (i : Int)) wr) (fun i _ => n - (intOf i).toNat)
  case atStart => exact ⟨0, Nat.zero_le _, rfl, HM2.out.ext (fun k _ => by simp [busyP])⟩
  case round =>
    obtain ⟨k, hk, rfl, hm⟩ := hrel
    have HM := Lib.hid hm
    clear hm
    by_cases hlt : k < n
    · have hkl : k < l.length := by rw [HL.out]; exact hlt
      obtain ⟨b1, off, A2, m2, c2, rfl, hbl, c0, c1, c2', c3, hel⟩ := RT.el (HR.out.below HM.out.bel) hlt
      have hx := RN.ri (hel.things.keep ei_steady (fun b hb => (HM.out.bel.block b hb).symm) (fun _ h => h))
      have hsucc := busyP_succ hkl a b
      have hxm := HRT.out.may _ (List.getElem_mem hkl)
      rw [← getD_at hkl] at hxm
      obtain ⟨x, hxx⟩ : ∃ x, l.getD k hd0 = x := ⟨_, rfl⟩
      rw [hxx] at c0 c2' c3 hx hsucc hxm hel
      have HSU := Lib.hid hsucc
      have HXM := Lib.hid hxm
      have hm100 : m2 ≤ 100 := by have := HF.out.at hkl; rw [hxx] at this; have := hx.1; omega
      have hba : Below wr.heap.size wr (wr.alloc (hO x A2 m2 c2)) := (Below.refl _ _).alloc (Nat.le_refl _) _
      have HX : Hid (RI w w.heap.size A2 m2 x.things) := Lib.hid hx
      have HMa := Lib.hid (HM.out.next hba)
      have HBX : Hid (BoxH (wr.alloc (hO x A2 m2 c2)) wr.heap.size x A2 m2 c2) := Lib.hid (boxH_new wr x A2 m2 c2)
      unfold hO at HMa HBX
      obtain ⟨Wa, hWa⟩ : ∃ Wa, wr.alloc (.cells #[.int .i64 x.id, .slice A2 m2 c2, .int .i64 x.frm, .int .i64 x.to] 37) = Wa := ⟨_, rfl⟩
      rw [hWa] at HMa HBX
      have q2 := HBX.out.c2
      have q3 := HBX.out.c3
      clear hx hel hxx hba hbl hsucc hxm hkl HM
      cases hme : meetsZ x.frm x.to a b with
      | false =>
        have EM := Lib.hid hme
        go_wp2_with (simp only [hWa])
        clear hWa c0 c1 c2' c3
        refine (meets_any EM.out).mono ?_
        rintro e w5 ⟨rfl, hb⟩
        have HM5 := Lib.hid (HMa.out.next hb)
        clear hb q2 q3
        go_wp2
        go_roundw
        case rel => exact ⟨k + 1, by omega, by go_num, HM5.out.ext (fun i _ => by rw [HSU.out, EM.out, Bool.false_and, Bool.or_false])⟩
        case measure => simp [intOf]; omega
      | true =>
        have EM := Lib.hid hme
        go_wp2_with (simp only [hWa])
        clear hWa c0 c1 c2' c3
        refine (meets_any EM.out).mono ?_
        rintro e w5 ⟨rfl, hb⟩
        have HM5 := Lib.hid (HMa.out.next hb)
        have HBX5 := Lib.hid (HBX.out.next hb)
        clear hb q2 q3
        have q1 := HBX5.out.c1
        go_wp2
        clear q1
        go_loopw [32] (fun i wq => ∃ j : Nat, j ≤ m2 ∧ i = .int .i64 j ∧ Marks w (fun i => busyP (l.take k) a b (i : Int) || (x.things.take j).contains (i : Int)) wq) (fun i _ => m2 - (intOf i).toNat)
        case atStart => exact ⟨0, Nat.zero_le _, rfl, HM5.out.ext (fun i _ => by simp)⟩
        case round =>
          obtain ⟨j, hj, rfl, hm⟩ := hrel
          have HMq := Lib.hid hm
          clear hm
          by_cases hltj : j < m2
          · have hjl : j < x.things.length := by rw [HX.out.1]; exact hltj
            obtain ⟨b2, o2, rfl, _, hcy⟩ := (HX.out.below HMq.out.bel).one hltj
            have hym := right_mem HXM.out.2.1 _ (z_mem hjl)
            have htc := take_contains hjl
            obtain ⟨y, hy⟩ : ∃ y, x.things.getD j 0 = y := ⟨_, rfl⟩
            rw [hy] at hcy hym htc
            obtain ⟨q, rfl⟩ : ∃ q : Nat, y = (q : Int) := ⟨y.toNat, by omega⟩
            have hq256 : q < 256 := by omega
            have hqz : (q : Int) < 256 := by omega
            have HTC := Lib.hid htc
            have ht := HMq.out.cell hq256
            have hz := HMq.out.frozen q
            have HMN : Hid (Marks w (fun i => busyP (l.take k) a b (i : Int) || (x.things.take (j + 1)).contains (i : Int)) (wr.setCell ⟨w.heap.size, q, none⟩ (.bool true))) := Lib.hid ((HMq.out.set true).ext (fun i _ => by
              rw [HTC.out]
              by_cases e : i = q
              · subst e; rw [mset_same]; simp
              · rw [mset_other _ _ e, show ((i : Int) == (q : Int)) = false from beq_eq_false_iff_ne.2 (by omega), Bool.or_false]))
            clear hy hym htc hjl
            go_wp2
            go_roundw
            case rel => exact ⟨j + 1, by omega, by go_num, HMN.out⟩
            case measure => simp [intOf]; omega
          · have hjm : j = m2 := by omega
            have HFIN : Hid (Marks w (fun i => busyP (l.take (k + 1)) a b (i : Int)) wr) := Lib.hid (HMq.out.ext (fun i _ => by rw [HSU.out, EM.out, Bool.true_and, List.take_of_length_le (l := x.things) (by rw [HX.out.1]; omega)]))
            go_wp2
            go_roundw
            case rel => exact ⟨k + 1, by omega, by go_num, HFIN.out⟩
            case measure => simp [intOf]; omega
    · have hkn : k = n := by omega
      have HM1 : Hid (Marks w p wr) := Lib.hid (HM.out.ext (fun i _ => by rw [HP.out, List.take_of_length_le (by rw [HL.out]; omega)]))
      have HB1 := Lib.hid HM1.out.bel
      clear HM
      go_wp2_with (with_reducible refine wpList_load_marks rfl _ rfl HM1.out rfl ?_; refine Hid.out ?_)
      refine Lib.hid ?_
      go_wp2
      obtain ⟨wm, hwm⟩ : ∃ wm, wr = wm := ⟨_, rfl⟩
      subst hwm
      go_loopw [12, 41] (fun v i wx => ∃ k : Nat, k ≤ 256 ∧ i = .int .i64 k ∧ ON EI 1 3 wr v (numsF p k) wx) (fun _ i _ => 256 - (intOf i).toNat)
      case atStart => exact ⟨0, Nat.zero_le _, rfl, ON.nil _⟩
      case round =>
        obtain ⟨k, hk, rfl, hf⟩ := hrel
        have HO := Lib.hid hf
        clear hf
        by_cases hlt : k < 256
        · have hlen : Hid ((numsF p k).length ≤ 1000) := Lib.hid (by have := numsF_len p k; omega)
          have hix := run_ix_marks p hlt
          cases hp : p k with
          | true =>
            have HS := Lib.hid (numsF_yes hp)
            rw [hp] at hix
            clear hp
            go_wp2_with (at_builtin; refine append_EI rfl (.tmp 46) (.tmp 48) 29 3 rfl HO.out i0 Tryd.underlying29 hi0 hz0 hz1 hz2 rfl _ rfl hlen.out ?_; intro v' w4 hON4; refine Hid.out ?_)
            refine Lib.hid ?_
            have HO4 := Lib.hid hON4
            clear hON4 hix
            go_wp2
            go_roundw
            case rel => exact ⟨k + 1, by omega, by go_num, by rw [HS.out]; exact HO4.out⟩
            case measure => simp [intOf]; omega
          | false =>
            have HS := Lib.hid (numsF_no hp)
            rw [hp] at hix
            clear hp
            go_wp2
            go_roundw
            case rel => exact ⟨k + 1, by omega, by go_num, by rw [HS.out]; exact HO.out⟩
            case measure => simp [intOf]; omega
        · have hkn : k = 256 := by omega
          subst hkn
          go_wp2
          go_ret
          exact HO.out.ipost.trans HB1.out

end Go.Proofs.YtbiofikijehlcaaDoor
