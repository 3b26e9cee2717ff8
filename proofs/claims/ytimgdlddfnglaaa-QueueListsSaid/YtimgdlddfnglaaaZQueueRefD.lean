/- The reference's Ready and Lost of layer 12. Written by gen/gen_queue.py. -/
import Derived.Laws.OwnMore
import Derived.Deep.LoopGhost
import Derived.Deep.QuietTactic
import Derived.Test.YtimgdlddfnglaaaZQueueRefC
namespace Go.Proofs.Ytimgdlddfnglaaa
open Go.RowKit

/-! who is told already: a row of bools; beside it the numbers that are told, a row that grows -/
structure RdR (w0 : World) (g n : Nat) (fl : List Bool) (v : Value) (xs : List Int) (wr : World) : Prop where
  told : wr.ownsRow w0.heap.size 4 1 (.slice (some ⟨g, 0, none⟩) n n) n (fl.map Value.bool)
  bel : Below w0.heap.size w0 wr
  row : wr.ownsRow (g + 1) 3 1 v xs.length (xs.map (Value.int .i64))
section
variable {w0 wr w1 : World} {g n k : Nat} {fl : List Bool} {v : Value} {xs : List Int}
theorem RdR.lt (h : RdR w0 g n fl v xs wr) : w0.heap.size ≤ g ∧ g < wr.heap.size := h.told.lt g rfl
theorem RdR.len (h : RdR w0 g n fl v xs wr) : fl.length = n := by have := h.told.1; rw [List.length_map] at this; omega
theorem RdR.cell (h : RdR w0 g n fl v xs wr) (hk : k < n) : wr.cell? ⟨g, k, none⟩ = some (.bool (fl.getD k false)) := by
  rw [h.told.cellAt k (by omega), List.getElem?_map, List.getD, List.getElem?_eq_getElem (by rw [h.len]; exact hk)]
  rfl
theorem RdR.frozen (h : RdR w0 g n fl v xs wr) (k : Nat) : wr.frozen? ⟨g, k, none⟩ = false := h.told.frozenAt k
theorem RdR.next (h : RdR w0 g n fl v xs wr) (hb : Below wr.heap.size wr w1) : RdR w0 g n fl v xs w1 := by
  refine ⟨⟨h.told.1, h.told.2.imp id ?_⟩, h.bel.trans (hb.mono h.bel.size), h.row.1, h.row.2.imp id ?_⟩
  all_goals
    rintro ⟨g', cap, cur, e1, e2, e3, e4⟩
    exact ⟨g', cap, cur, e1, e2, (hb.block g' (Array.getElem?_eq_some_iff.1 e3).1).trans e3, e4⟩
theorem RdR.set (h : RdR w0 g n fl v xs wr) (k : Nat) (b : Bool) : RdR w0 g n (fl.set k b) v xs (wr.setCell ⟨g, k, none⟩ (.bool b)) := by
  have hs := h.told.stored k (.bool b)
  rw [← List.map_set] at hs
  refine ⟨hs.1, h.bel.grown hs.2 h.bel.size (fun b hb => by injection hb with hb; have := h.lt; omega), h.row.1, h.row.2.imp id ?_⟩
  rintro ⟨g', cap, cur, e1, e2, e3, e4⟩
  exact ⟨g', cap, cur, e1, e2, (Below.heap_setCell wr _ _ _ (by show g' ≠ g; omega)).trans e3, e4⟩
theorem RdR.made (h : wr.ownsRow w0.heap.size 4 1 (.slice (some ⟨g, 0, none⟩) n n) n (fl.map Value.bool)) (hb : Below w0.heap.size w0 wr) : RdR w0 g n fl (.slice none 0 0) [] wr :=
  ⟨h, hb, by simpa using World.ownsRow_nil wr (g + 1) 3 1⟩
theorem RdR.post (h : RdR w0 g n fl v xs wr) : IPost xs w0 (.returned v) wr := by
  refine ipost_own (B := g + 1) h.row h.bel
/-- 'l = append(l, x)' -/
theorem wpList_append_RdR {ops : Array Oper} {rest : List Oper} {o : Oper} {a : Act} {Q : Exit → Act → World → Prop} (hgd : o.guard = none) (s x : Operand)
    (ho : o.op = .call { callee := .builtin .append, args := #[s, x], argTypes := #[28, 28] })
    (h : RdR w0 g n fl v xs wr) (hs : a.eval s = v) (x0 : Int) (hx : a.eval x = .slice (some ⟨wr.heap.size, 0, none⟩) 1 1) (hl : xs.length ≤ 1000)
    (hk : ∀ v' w', RdR w0 g n fl v' (xs ++ [x0]) w' → wpList Try.prog ops Q rest (a.put o.dst v') w') : wpList Try.prog ops Q (o :: rest) a (wr.alloc (.cells #[.int .i64 x0] 3)) := by
  obtain ⟨i0, hi0, hz0, hz1, hz2⟩ := info_parts int_info
  have hlt := h.lt
  refine wpList_append_own (wr.alloc (.cells #[.int .i64 x0] 3)) hgd s x 28 ho (g + 1) 3 i0 (.int .i64 0) 1 8 Try.underlying28 hi0 hz0 hz1 hz2 rfl (by decide) v xs.length (xs.map (Value.int .i64)) hs (h.row.alloc _) ⟨wr.heap.size, 0, none⟩ 1 1 [.int .i64 x0] hx rfl
    (World.news_of_block (cs := #[.int .i64 x0]) (t := 3) (fr := (0, 0)) (heap_alloc_new wr _)) (by intro u hu; simp at hu; subst hu; rfl) (by unfold maxLen; omega) (by omega) (by simp; omega) fun v' w' h1 h2 _ => hk v' w' ?_
  have hkeep : w'.heap[g]? = wr.heap[g]? := by
    refine (h2.block g (by simp; omega) (fun e => ?_)).trans (heap_alloc_old _ _ hlt.2)
    have := (h.row.lt g e.symm).1
    omega
  refine ⟨⟨h.told.1, h.told.2.imp id ?_⟩, (h.bel.alloc h.bel.size _).grown h2 (by have := h.bel.size; simp; omega) (fun j hj => by have := (h.row.lt j hj).1; omega), by rw [List.length_append, List.map_append]; exact h1⟩
  rintro ⟨g', cap, cur, e1, e2, e3, e4⟩
  have hg : g' = g := by injection e1 with e1; injection e1 with e1; injection e1 with e1; exact e1.symm
  subst hg
  exact ⟨g', cap, cur, e1, e2, hkeep.trans e3, e4⟩
end

/-! the plain side of the walk -/
section
variable {l : Qu} {k : Nat} {fl : List Bool}
/-- the first k of the ready ones are told, and just these -/
def Told (l : Qu) (k : Nat) (fl : List Bool) : Prop := fl.length = l.length ∧ ∀ i, i < l.length → (fl.getD i false = true ↔ jAt l i ∈ (readyL l).take k)
/-- best is the one that stands ahead of all others that aren't told, among the first i; -1: there is none -/
def BestAt (l : Qu) (fl : List Bool) (i : Nat) (best : Int) : Prop :=
  (best = -1 ∧ ∀ q, q < i → ¬ (fl.getD q false = false ∧ readyB l (jAt l q) = true)) ∨
  ∃ b : Nat, best = b ∧ b < i ∧ fl.getD b false = false ∧ readyB l (jAt l b) = true ∧ ∀ q, q < i → fl.getD q false = false → readyB l (jAt l q) = true → q = b ∨ Before (jAt l b) (jAt l q)
theorem told_start (hf : fl = List.replicate l.length false) : Told l 0 fl := by
  subst hf
  refine ⟨by simp, fun i hi => ?_⟩
  rw [List.take_zero, List.getD, List.getElem?_replicate, if_pos hi]
  simp
theorem best_start : BestAt l fl 0 (-1) := .inl ⟨rfl, fun q hq => absurd hq (by omega)⟩
theorem best_skip {i : Nat} {best : Int} (h : BestAt l fl i best) (hn : fl.getD i false = true ∨ readyB l (jAt l i) = false) : BestAt l fl (i + 1) best := by
  rcases h with ⟨h1, h2⟩ | ⟨b, h1, h2, h3, h4, h5⟩
  · refine .inl ⟨h1, fun q hq hh => ?_⟩
    by_cases e : q = i
    · subst e; rcases hn with hn | hn
      · rw [hn] at hh; exact absurd hh.1 (by decide)
      · rw [hn] at hh; exact absurd hh.2 (by decide)
    · exact h2 q (by omega) hh
  · refine .inr ⟨b, h1, by omega, h3, h4, fun q hq hq2 hq3 => ?_⟩
    by_cases e : q = i
    · subst e; rcases hn with hn | hn
      · rw [hn] at hq2; exact absurd hq2 (by decide)
      · rw [hn] at hq3; exact absurd hq3 (by decide)
    · exact h5 q (by omega) hq2 hq3
theorem best_first {i : Nat} (h : BestAt l fl i (-1)) (h1 : fl.getD i false = false) (h2 : readyB l (jAt l i) = true) : BestAt l fl (i + 1) i := by
  rcases h with ⟨_, h3⟩ | ⟨b, h3, _⟩
  · refine .inr ⟨i, rfl, by omega, h1, h2, fun q hq hq2 hq3 => ?_⟩
    by_cases e : q = i
    · exact .inl e
    · exact absurd ⟨hq2, hq3⟩ (h3 q (by omega))
  · omega
theorem best_more {i b : Nat} (_ : RightQ l) (_ : i < l.length) (h : BestAt l fl i b) (h1 : fl.getD i false = false) (h2 : readyB l (jAt l i) = true) (hp : (jAt l b).spec.prio < (jAt l i).spec.prio) : BestAt l fl (i + 1) i := by
  rcases h with ⟨h3, _⟩ | ⟨b', h3, h4, h5, h6, h7⟩
  · omega
  · have e : b' = b := by omega
    subst e
    refine .inr ⟨i, rfl, by omega, h1, h2, fun q hq hq2 hq3 => ?_⟩
    by_cases e : q = i
    · exact .inl e
    · refine .inr ?_
      have hb : Before (jAt l i) (jAt l b') := .inl hp
      rcases h7 q (by omega) hq2 hq3 with e2 | e2
      · subst e2; exact hb
      · exact hb.trans e2
theorem best_less {i b : Nat} (hr : RightQ l) (hi : i < l.length) (h : BestAt l fl i b) (hp : ¬ (jAt l b).spec.prio < (jAt l i).spec.prio) : BestAt l fl (i + 1) b := by
  rcases h with ⟨h3, _⟩ | ⟨b', h3, h4, h5, h6, h7⟩
  · omega
  · have e : b' = b := by omega
    subst e
    refine .inr ⟨b', rfl, by omega, h5, h6, fun q hq hq2 hq3 => ?_⟩
    by_cases e : q = i
    · subst e
      refine .inr ?_
      have := hr.rise h4 hi
      unfold Before; omega
    · exact h7 q (by omega) hq2 hq3
theorem ready_has {x : Jb} (h : x ∈ readyL l) : ∃ i, i < l.length ∧ jAt l i = x ∧ readyB l x = true := by
  have h1 := mem_readyL.1 h
  obtain ⟨i, hi, e⟩ := mem_jAt h1.1
  exact ⟨i, hi, e, h1.2⟩
/-- none is left: all are told -/
theorem best_none (hr : RightQ l) (ht : Told l k fl) (hk : k ≤ (readyL l).length) (h : BestAt l fl l.length (-1)) : k = (readyL l).length := by
  rcases h with ⟨_, h1⟩ | ⟨b, h1, _⟩
  · rcases Nat.lt_or_ge k (readyL l).length with h2 | h2
    · obtain ⟨i, hi, e, hb⟩ := ready_has (List.getElem_mem h2)
      refine absurd ⟨?_, by rw [e]; exact hb⟩ (h1 i hi)
      cases hf : fl.getD i false with
      | false => rfl
      | true =>
        have h3 := (ht.2 i hi).1 hf
        rw [e] at h3
        obtain ⟨q, hq, e2⟩ := List.getElem_of_mem h3
        rw [List.getElem_take] at e2
        rw [List.length_take] at hq
        have hp := List.pairwise_iff_getElem.1 hr.readyOrder q k (by omega) h2 (by omega)
        rw [e2] at hp
        exact absurd hp Before.irrefl
    · omega
  · omega
/-- the best one is the next that is told -/
theorem best_next {b : Nat} (hr : RightQ l) (ht : Told l k fl) (hb : b < l.length) (h : BestAt l fl l.length b) : k < (readyL l).length ∧ (readyL l)[k]? = some (jAt l b) ∧ Told l (k + 1) (fl.set b true) := by
  rcases h with ⟨h1, _⟩ | ⟨b', h1, h2, h3, h4, h5⟩
  · omega
  have e : b' = b := by omega
  subst e
  have hm : jAt l b' ∈ readyL l := mem_readyL.2 ⟨jAt_mem hb, h4⟩
  obtain ⟨q, hq, e⟩ := List.getElem_of_mem hm
  have hqk : k ≤ q := by
    rcases Nat.lt_or_ge q k with h6 | h6
    · have : jAt l b' ∈ (readyL l).take k := by
        rw [← e]
        exact List.mem_take_iff_getElem.2 ⟨q, by omega, rfl⟩
      have h7 := (ht.2 b' hb).2 this
      rw [h3] at h7; cases h7
    · exact h6
  have hkl : k < (readyL l).length := by omega
  have hqe : q = k := by
    rcases Nat.lt_or_ge k q with h6 | h6
    · obtain ⟨i, hi, e2, hb2⟩ := ready_has (List.getElem_mem hkl)
      have hp := List.pairwise_iff_getElem.1 hr.readyOrder k q hkl hq h6
      have hf : fl.getD i false = false := by
        cases hf : fl.getD i false with
        | false => rfl
        | true =>
          have h7 := (ht.2 i hi).1 hf
          rw [e2] at h7
          obtain ⟨p, hp2, e3⟩ := List.getElem_of_mem h7
          rw [List.getElem_take] at e3
          rw [List.length_take] at hp2
          have hp3 := List.pairwise_iff_getElem.1 hr.readyOrder p k (by omega) hkl (by omega)
          rw [e3] at hp3
          exact absurd hp3 Before.irrefl
      rw [e] at hp
      rcases h5 i hi hf (by rw [e2]; exact hb2) with h8 | h8
      · subst h8; rw [e2] at hp; exact absurd hp Before.irrefl
      · rw [e2] at h8; exact absurd hp h8.asymm
    · omega
  subst hqe
  refine ⟨hkl, by rw [List.getElem?_eq_getElem hkl, e], by rw [List.length_set]; exact ht.1, fun i hi => ?_⟩
  have h9 : i ∈ List.range l.length := List.mem_range.2 hi
  rw [List.take_succ_eq_append_getElem hkl, List.mem_append, List.mem_singleton, e]
  by_cases hib : i = b'
  · subst hib
    rw [List.getD, List.getElem?_set_self (by rw [ht.1]; exact hb)]
    simp
  · have h10 : (fl.set b' true).getD i false = fl.getD i false := by rw [List.getD, List.getD, List.getElem?_set_ne (fun e => hib e.symm)]
    rw [h10, ht.2 i hi]
    constructor
    · exact .inl
    · rintro (h11 | h11)
      · exact h11
      · exact absurd (hr.one hi hb (by rw [h11])) hib
theorem ready_take {b : Nat} (h : (readyL l)[k]? = some (jAt l b)) : ((readyL l).take (k + 1)).map Jb.id = ((readyL l).take k).map Jb.id ++ [(jAt l b).id] := by
  obtain ⟨hk, e⟩ := List.getElem?_eq_some_iff.1 h
  rw [List.take_succ_eq_append_getElem hk, List.map_append, e]; rfl
end

end Go.Proofs.Ytimgdlddfnglaaa
