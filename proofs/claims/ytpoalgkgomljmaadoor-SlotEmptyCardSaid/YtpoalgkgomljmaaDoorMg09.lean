/- Plain facts for the program's way through a table: till when each thing is held, by those gone through, the earlier ones first. No program's text is walked here. The program's find: slices.BinarySearchFunc over a table, by a walk over its text. Plain facts: what is added, dropped, got, cut short, told by the place where a number stands; rows of cells, one more or one less. Go's slices.SortFunc of holdings at this dump, by the library's contract. The program's byFrom: a table's holdings in a new row, the earlier ones first. Words for memory: an array of 256 numbers in a block of its own (till when each thing is held): made, marked, loaded whole, asked at a place. The program's twice: is a thing held twice at a time, by holdings each of which may be. -/
import Derived.Test.YtpoalgkgomljmaaDoorMg02
import Derived.RegionTactic
import Derived.Shelf.Abstract
import Derived.Test.YtpoalgkgomljmaaDoorMg07
import Derived.Test.YtpoalgkgomljmaaDoorMg08
import Derived.Shelf.SlSortCmp.WholeK
import Derived.Shelf.SlSortCmp.NoneTotal
import Derived.Test.YtpoalgkgomljmaaDoorProg
import Derived.IntWalk
import Derived.Laws.Rows
namespace Go.Proofs.YtpoalgkgomljmaaDoor

def NoClash (l : Tb) : Prop := l.Pairwise fun a b => clashH a b = false
instance (l : Tb) : Decidable (NoClash l) := by unfold NoClash; infer_instance
def twiceB (l : Tb) : Bool := !decide (NoClash l)
theorem noClash_perm {a b : Tb} (h : a.Perm b) : NoClash a ↔ NoClash b := h.pairwise_iff (fun {x y} h => by rw [clash_comm]; exact h)
/-- what has been gone through: the first k holdings, and j things of the next one -/
def Seen (m : Tb) (k j : Nat) (g : Hd) (n : Int) : Prop := (g ∈ m.take k ∧ n ∈ g.things) ∨ (k < m.length ∧ g = m.getD k hd0 ∧ n ∈ g.things.take j)
structure Till (m : Tb) (k j : Nat) (t : Nat → Int) : Prop where
  up : ∀ g n, Seen m k j g n → g.to ≤ t n.toNat
  src : ∀ n : Nat, t n = 0 ∨ ∃ g, Seen m k j g (n : Int) ∧ t n = g.to
  ok : NoClash (m.take k)
  now : ∀ g ∈ m.take k, ∀ n ∈ (m.getD k hd0).things.take j, n ∈ g.things → meetsZ g.frm g.to (m.getD k hd0).frm (m.getD k hd0).to = false
theorem getD_at {m : Tb} {k : Nat} (hk : k < m.length) : m.getD k hd0 = m[k] := by rw [List.getD, List.getElem?_eq_getElem hk]; rfl
theorem z_at {l : List Int} {j : Nat} (hj : j < l.length) : l.getD j 0 = l[j] := by rw [List.getD, List.getElem?_eq_getElem hj]; rfl
theorem z_mem {l : List Int} {j : Nat} (hj : j < l.length) : l.getD j 0 ∈ l := by rw [z_at hj]; exact List.getElem_mem hj
theorem till_zero (m : Tb) : Till m 0 0 (fun _ => 0) :=
  ⟨fun g n h => by rcases h with ⟨h, _⟩ | ⟨_, _, h⟩ <;> simp at h, fun _ => .inl rfl, by simp [NoClash], fun g h => by simp at h⟩
section
variable {m : Tb} {k j : Nat} {t : Nat → Int}
/-- a thing that is still held when the next one begins is held twice -/
theorem Till.bad (h : Till m k j t) (hm : ∀ x ∈ m, MayH x) (hs : m.Pairwise fun a b => a.frm ≤ b.frm) (hk : k < m.length) (hj : j < (m.getD k hd0).things.length) (hlt : (m.getD k hd0).frm < t ((m.getD k hd0).things.getD j 0).toNat) : ¬ NoClash m := by
  intro hc
  have hx := hm _ (List.getElem_mem hk)
  rw [← getD_at hk] at hx
  have hn : (m.getD k hd0).things.getD j 0 ∈ (m.getD k hd0).things := z_mem hj
  have hn0 := right_mem hx.2.1 _ hn
  rcases h.src ((m.getD k hd0).things.getD j 0).toNat with h0 | ⟨g, hg, ht⟩
  · have := hx.2.2.1; omega
  · rw [Int.toNat_of_nonneg hn0.1] at hg
    rcases hg with ⟨hg, hgn⟩ | ⟨_, hg, hgn⟩
    · obtain ⟨i, hi, rfl⟩ := List.getElem_of_mem hg
      have hil : i < m.length := by rw [List.length_take] at hi; omega
      rw [List.getElem_take] at *
      have hik : i < k := by rw [List.length_take] at hi; omega
      have h1 := List.pairwise_iff_getElem.1 hc i k hil hk hik
      have h2 := List.pairwise_iff_getElem.1 hs i k hil hk hik
      have hgm := hm _ (List.getElem_mem hil)
      rw [getD_at hk] at *
      have hcl : clashH m[i] m[k] = true := by
        unfold clashH
        rw [Bool.and_eq_true]
        refine ⟨?_, touch_iff.2 ⟨_, hgn, hn⟩⟩
        unfold meetsZ
        rw [decide_eq_true_eq]
        have a1 := hgm.2.2.2.1
        have a2 := hx.2.2.2.1
        omega
      rw [hcl] at h1
      cases h1
    · subst hg
      obtain ⟨i, hi, e⟩ := List.getElem_of_mem hgn
      rw [List.length_take] at hi
      rw [List.getElem_take] at e
      have hnd := right_nodup hx.2.1
      have hji : i < j := by omega
      rw [z_at hj] at e
      exact List.pairwise_iff_getElem.1 hnd i j (by omega) hj hji e
/-- a thing more -/
theorem Till.next (h : Till m k j t) (hm : ∀ x ∈ m, MayH x) (hk : k < m.length) (hj : j < (m.getD k hd0).things.length) (hge : ¬ (m.getD k hd0).frm < t ((m.getD k hd0).things.getD j 0).toNat) :
    Till m k (j + 1) (fun i => if i = ((m.getD k hd0).things.getD j 0).toNat then (m.getD k hd0).to else t i) := by
  have hx := hm _ (List.getElem_mem hk)
  rw [← getD_at hk] at hx
  obtain ⟨x, hxe⟩ : ∃ x, m.getD k hd0 = x := ⟨_, rfl⟩
  have hT : x.things.take (j + 1) = x.things.take j ++ [x.things.getD j 0] := by
    rw [hxe] at hj
    rw [List.take_succ_eq_append_getElem hj, z_at hj]
  have hn : x.things.getD j 0 ∈ x.things := by rw [hxe] at hj; exact z_mem hj
  have hS : ∀ g n, Seen m k (j + 1) g n ↔ Seen m k j g n ∨ (g = x ∧ n = x.things.getD j 0) := by
    intro g n
    unfold Seen
    constructor
    · rintro (h1 | ⟨_, h2, h3⟩)
      · exact .inl (.inl h1)
      · rw [hxe] at h2
        subst h2
        rw [hT, List.mem_append, List.mem_singleton] at h3
        rcases h3 with h3 | h3
        · exact .inl (.inr ⟨hk, hxe.symm, h3⟩)
        · exact .inr ⟨rfl, h3⟩
    · rintro ((h1 | ⟨_, h2, h3⟩) | ⟨h1, h2⟩)
      · exact .inl h1
      · refine .inr ⟨hk, h2, ?_⟩
        rw [hxe] at h2
        subst h2
        rw [hT]
        exact List.mem_append_left _ h3
      · subst h1
        refine .inr ⟨hk, hxe.symm, ?_⟩
        rw [hT, h2]
        exact List.mem_append_right _ (List.mem_singleton.2 rfl)
  have hpos : ∀ g n, Seen m k j g n → 0 ≤ n := by
    rintro g n (⟨h1, h2⟩ | ⟨_, h1, h2⟩)
    · exact (right_mem (hm g (List.mem_of_mem_take h1)).2.1 n h2).1
    · rw [h1, hxe] at h2
      rw [hxe] at hx
      exact (right_mem hx.2.1 n (List.mem_of_mem_take h2)).1
  rw [hxe] at hx hge ⊢
  have hn0 := (right_mem hx.2.1 _ hn).1
  refine ⟨fun g n hg => ?_, fun n => ?_, h.ok, fun g hg n hnm hgn => ?_⟩
  · show g.to ≤ if n.toNat = _ then x.to else t n.toNat
    rcases (hS g n).1 hg with h1 | ⟨h1, h2⟩
    · have h3 := h.up g n h1
      split
      · rename_i e
        rw [e] at h3
        have := hx.2.2.2.1
        omega
      · exact h3
    · subst h1 h2
      rw [if_pos rfl]
      exact Int.le_refl _
  · show (if n = _ then x.to else t n) = 0 ∨ ∃ g, Seen m k (j + 1) g (n : Int) ∧ (if n = _ then x.to else t n) = g.to
    split
    · rename_i e
      refine .inr ⟨x, (hS x n).2 (.inr ⟨rfl, ?_⟩), rfl⟩
      rw [e, Int.toNat_of_nonneg hn0]
    · rcases h.src n with h1 | ⟨g, h1, h2⟩
      · exact .inl h1
      · exact .inr ⟨g, (hS g n).2 (.inl h1), h2⟩
  · rw [hxe] at hnm ⊢
    rw [hT, List.mem_append, List.mem_singleton] at hnm
    rcases hnm with h1 | h1
    · have := h.now g hg n (by rw [hxe]; exact h1) hgn
      rwa [hxe] at this
    · have h2 := h.up g n (.inl ⟨hg, hgn⟩)
      rw [h1] at h2
      unfold meetsZ
      rw [decide_eq_false_iff_not]
      omega
/-- a holding more -/
theorem Till.step (h : Till m k j t) (hk : k < m.length) (hj : (m.getD k hd0).things.length ≤ j) : Till m (k + 1) 0 t := by
  have e := getD_at hk
  have hS : ∀ g n, Seen m (k + 1) 0 g n ↔ Seen m k j g n := by
    intro g n
    unfold Seen
    rw [List.take_succ_eq_append_getElem hk, ← e]
    constructor
    · rintro (⟨h1, h2⟩ | ⟨_, _, h3⟩)
      · rcases List.mem_append.1 h1 with h1 | h1
        · exact .inl ⟨h1, h2⟩
        · rw [List.mem_singleton] at h1
          refine .inr ⟨hk, h1, ?_⟩
          rw [List.take_of_length_le (by rw [h1]; exact hj)]
          exact h2
      · simp at h3
    · rintro (⟨h1, h2⟩ | ⟨_, h1, h3⟩)
      · exact .inl ⟨List.mem_append_left _ h1, h2⟩
      · exact .inl ⟨List.mem_append_right _ (List.mem_singleton.2 h1), List.mem_of_mem_take h3⟩
  refine ⟨fun g n hg => h.up g n ((hS g n).1 hg), fun n => (h.src n).imp id fun ⟨g, h1, h2⟩ => ⟨g, (hS g n).2 h1, h2⟩, ?_, fun g _ n hn => by simp at hn⟩
  unfold NoClash
  rw [List.take_succ_eq_append_getElem hk, ← e, List.pairwise_append]
  refine ⟨h.ok, List.pairwise_singleton _ _, fun g hg x hx => ?_⟩
  rw [List.mem_singleton] at hx
  subst hx
  refine Bool.eq_false_iff.2 fun hc => ?_
  unfold clashH at hc
  rw [Bool.and_eq_true] at hc
  obtain ⟨n, h1, h2⟩ := touch_iff.1 hc.2
  have := h.now g hg n (by rw [List.take_of_length_le hj]; exact h2) h1
  rw [this] at hc
  cases hc.1
theorem Till.all (h : Till m k 0 t) (hk : m.length ≤ k) : NoClash m := by
  have := h.ok
  rwa [List.take_of_length_le hk] at this
end
/-- may each holding be, and rise the numbers -/
structure RiseH (l : Tb) (i : Nat) : Prop where
  may : ∀ x ∈ l.take i, MayH x
  ids : (l.take i).Pairwise fun a b => a.id < b.id
theorem rise_zero (l : Tb) : RiseH l 0 := ⟨fun x h => by simp at h, by simp⟩
theorem RiseH.next {l : Tb} {i : Nat} (h : RiseH l i) (hi : i < l.length) (h1 : MayH (l.getD i hd0)) (h2 : 0 < i → (l.getD (i - 1) hd0).id < (l.getD i hd0).id) : RiseH l (i + 1) := by
  rw [getD_at hi] at h1 h2
  refine ⟨fun x hx => ?_, ?_⟩
  · rw [List.take_succ_eq_append_getElem hi, List.mem_append, List.mem_singleton] at hx
    rcases hx with e | e
    · exact h.may x e
    · subst e; exact h1
  · rw [List.take_succ_eq_append_getElem hi, List.pairwise_append]
    refine ⟨h.ids, List.pairwise_singleton _ _, fun x hx y hy => ?_⟩
    rw [List.mem_singleton] at hy
    subst hy
    obtain ⟨q, hq, rfl⟩ := List.getElem_of_mem hx
    rw [List.length_take] at hq
    have h3 := h2 (by omega)
    rw [getD_at (show i - 1 < l.length by omega)] at h3
    by_cases e : q = i - 1
    · subst e; rw [List.getElem_take]; exact h3
    · have h4 := List.pairwise_iff_getElem.1 h.ids q (i - 1) (by rw [List.length_take]; omega) (by rw [List.length_take]; omega) (by omega)
      rw [List.getElem_take] at h4 ⊢
      rw [List.getElem_take] at h4
      omega
theorem RiseH.bad_may {l : Tb} {i : Nat} (hi : i < l.length) (h : mayH (l.getD i hd0) = false) : rightT l = false := by
  refine Bool.eq_false_iff.2 fun hr => ?_
  have := (rightT_is.1 hr).may _ (List.getElem_mem hi)
  rw [getD_at hi] at h
  exact absurd this (of_decide_eq_false h)
theorem RiseH.bad_id {l : Tb} {i : Nat} (hi : i < l.length) (h0 : 0 < i) (h : (l.getD i hd0).id ≤ (l.getD (i - 1) hd0).id) : rightT l = false := by
  refine Bool.eq_false_iff.2 fun hr => ?_
  have := List.pairwise_iff_getElem.1 (rightT_is.1 hr).row (i - 1) i (by omega) hi (by omega)
  rw [getD_at hi, getD_at (show i - 1 < l.length by omega)] at h
  have := this.1
  omega
theorem RiseH.end {l : Tb} (h : RiseH l l.length) (h256 : l.length ≤ 256) : rightT l = !twiceB l := by
  unfold twiceB
  rw [Bool.not_not, Bool.eq_iff_iff, rightT_is, decide_eq_true_eq]
  have e : l.take l.length = l := List.take_length
  have hm := h.may
  have hi := h.ids
  rw [e] at hm hi
  constructor
  · intro hr
    exact hr.row.imp fun h => h.2
  · intro hc
    exact ⟨h256, hm, (hi.and hc)⟩

end Go.Proofs.YtpoalgkgomljmaaDoor

namespace Go.Proofs.YtpoalgkgomljmaaDoor
open Go.RowKit

/-- one before the other: -1, 0, 1 -/
def hcmpZ (a b : Int) : Int := if a < b then -1 else if b < a then 1 else 0
theorem cmpZ_lt (a b : Int) : decide (hcmpZ a b < 0) = decide (a < b) := by
  unfold hcmpZ
  by_cases h1 : a < b
  · simp [h1]
  · by_cases h2 : b < a <;> simp [h1, h2]
theorem cmpZ_eq {a b : Int} : hcmpZ a b = 0 ↔ a = b := by
  unfold hcmpZ
  by_cases h1 : a < b
  · simp [h1]; omega
  · by_cases h2 : b < a <;> simp [h1, h2] <;> omega

/-- where a number stands, or would stand -/
structure Stands (l : Tb) (id : Int) (K : Nat) : Prop where
  le : K ≤ l.length
  low : ∀ q, q < K → (l.getD q hd0).id < id
  high : ∀ q, K ≤ q → q < l.length → id ≤ (l.getD q hd0).id
def hereB (l : Tb) (id : Int) (K : Nat) : Bool := decide (K < l.length) && decide ((l.getD K hd0).id = id)



end Go.Proofs.YtpoalgkgomljmaaDoor

namespace Go.Proofs.YtpoalgkgomljmaaDoor
open Go.RowKit

section
variable {l : Tb} {id z : Int} {K : Nat} {h : Hd}
theorem ids_lt (hi : l.Pairwise fun a b => a.id < b.id) {q r : Nat} (h1 : q < r) (h2 : r < l.length) : (l.getD q hd0).id < (l.getD r hd0).id := by
  have h3 := List.pairwise_iff_getElem.1 hi q r (by omega) h2 h1
  rwa [← getD_at, ← getD_at] at h3
theorem here_has (hi : l.Pairwise fun a b => a.id < b.id) (hs : Stands l id K) : hereB l id K = hasT l id := by
  unfold hereB
  rw [Bool.eq_iff_iff, Bool.and_eq_true, decide_eq_true_eq, decide_eq_true_eq, has_iff_id]
  constructor
  · rintro ⟨h1, h2⟩
    exact ⟨_, List.getElem_mem h1, by rw [← getD_at h1]; exact h2⟩
  · rintro ⟨x, hx, e⟩
    obtain ⟨q, hq, rfl⟩ := List.getElem_of_mem hx
    rw [← getD_at hq] at e
    have h1 : K ≤ q := by
      rcases Nat.lt_or_ge q K with h' | h'
      · have := hs.low q h'; omega
      · exact h'
    have hK : K < l.length := by omega
    refine ⟨hK, ?_⟩
    rcases Nat.eq_or_lt_of_le h1 with e1 | e1
    · subst e1; exact e
    · have h2 := hs.high K (Nat.le_refl _) hK
      have h3 := ids_lt hi e1 hq
      omega
theorem take_low (hs : Stands l id K) : ∀ x ∈ l.take K, x.id < id := by
  intro x hx
  obtain ⟨q, hq, rfl⟩ := List.getElem_of_mem hx
  rw [List.length_take] at hq
  have := hs.low q (by omega)
  rw [getD_at (show q < l.length by omega)] at this
  rwa [List.getElem_take]
theorem drop_high (hs : Stands l id K) (hn : ∀ x ∈ l, x.id ≠ id) : ∀ x ∈ l.drop K, id < x.id := by
  intro x hx
  have hm := hn x (List.mem_of_mem_drop hx)
  obtain ⟨q, hq, rfl⟩ := List.getElem_of_mem hx
  rw [List.length_drop] at hq
  rw [List.getElem_drop] at hm ⊢
  have := hs.high (K + q) (by omega) (by omega)
  rw [getD_at (show K + q < l.length by omega)] at this
  omega
theorem ins_at (hs : Stands l h.id K) (hn : ∀ x ∈ l, x.id ≠ h.id) : insT l h = l.take K ++ h :: l.drop K := by
  unfold insT
  have hl := take_low hs
  have hd := drop_high hs hn
  conv => lhs; rw [← List.take_append_drop K l]
  rw [List.filter_append, List.filter_append]
  rw [List.filter_eq_self.2 (fun x hx => decide_eq_true (hl x hx)), List.filter_eq_nil_iff.2 (fun x hx => by have := hd x hx; rw [decide_eq_true_eq]; omega), List.append_nil,
    List.filter_eq_nil_iff.2 (fun x hx => by have := hl x hx; rw [decide_eq_true_eq]; omega), List.nil_append, List.filter_eq_self.2 (fun x hx => decide_eq_true (hd x hx))]
theorem here_facts (hh : hereB l id K = true) : K < l.length ∧ (l.getD K hd0).id = id := by
  unfold hereB at hh
  rw [Bool.and_eq_true, decide_eq_true_eq, decide_eq_true_eq] at hh
  exact hh
theorem after_high (hi : l.Pairwise fun a b => a.id < b.id) (hh : hereB l id K = true) : ∀ x ∈ l.drop (K + 1), id < x.id := by
  obtain ⟨hK, e⟩ := here_facts hh
  intro x hx
  obtain ⟨q, hq, rfl⟩ := List.getElem_of_mem hx
  rw [List.length_drop] at hq
  rw [List.getElem_drop]
  have := ids_lt hi (show K < K + 1 + q by omega) (by omega)
  rw [getD_at (show K + 1 + q < l.length by omega)] at this
  omega
theorem split_at (hK : K < l.length) : l = l.take K ++ (l.getD K hd0 :: l.drop (K + 1)) := by
  rw [getD_at hK, ← List.drop_eq_getElem_cons hK, List.take_append_drop]
theorem drop_at (hi : l.Pairwise fun a b => a.id < b.id) (hs : Stands l id K) (hh : hereB l id K = true) : l.filter (fun x => x.id != id) = l.take K ++ l.drop (K + 1) := by
  obtain ⟨hK, e⟩ := here_facts hh
  have hl := take_low hs
  have hd := after_high hi hh
  conv => lhs; rw [split_at hK]
  rw [List.filter_append, List.filter_cons, if_neg (by rw [e]; simp), List.filter_eq_self.2 (fun x hx => bne_iff_ne.2 (by have := hl x hx; omega)), List.filter_eq_self.2 (fun x hx => bne_iff_ne.2 (by have := hd x hx; omega))]
theorem cut_at (hi : l.Pairwise fun a b => a.id < b.id) (hs : Stands l id K) (hh : hereB l id K = true) : l.map (shortH id z) = l.set K ⟨(l.getD K hd0).id, (l.getD K hd0).things, (l.getD K hd0).frm, z⟩ := by
  obtain ⟨hK, e⟩ := here_facts hh
  have hl := take_low hs
  have hd := after_high hi hh
  conv => lhs; rw [split_at hK]
  rw [List.map_append, List.map_cons]
  rw [List.map_congr_left (l := l.take K) (g := fun x => x) (fun x hx => by unfold shortH; rw [if_neg (by have := hl x hx; omega)]), List.map_congr_left (l := l.drop (K + 1)) (g := fun x => x) (fun x hx => by unfold shortH; rw [if_neg (by have := hd x hx; omega)]), List.map_id', List.map_id', show shortH id z (l.getD K hd0) = ⟨(l.getD K hd0).id, (l.getD K hd0).things, (l.getD K hd0).frm, z⟩ by unfold shortH; rw [if_pos e]]
  obtain ⟨y, hy⟩ : ∃ y : Hd, (⟨(l.getD K hd0).id, (l.getD K hd0).things, (l.getD K hd0).frm, z⟩ : Hd) = y := ⟨_, rfl⟩
  rw [hy]
  rw [List.set_eq_take_append_cons_drop, if_pos hK]
theorem get_at (hr : rightT l = true) (hh : hereB l id K = true) : getT l id = l.getD K hd0 := by
  obtain ⟨hK, e⟩ := here_facts hh
  rw [← e]
  exact get_is hr (by rw [getD_at hK]; exact List.getElem_mem hK)
end
section
variable {base : Nat} {w w6 w7 : World} {v v' : Value} {l l' : Tb} {n : Nat} {fl' : List Value}
/-- a row behind an Insert or a Delete, as a table -/
theorem ins_on (hb : Below w.heap.size w w6) (hq : w7.ownsRow w.heap.size 39 4 v' n fl') (h2 : Below w.heap.size w6 w7) (hk : Keeps w6 v w7 v') (hl : l'.length = n)
    (hE : ∀ j x, l'[j]? = some x → EH w6 (fun b => b < w6.heap.size ∧ v.ownBlock ≠ some b) x ((fl'.drop (j * 4)).take 4)) : ON EH 4 39 w v' l' w7 := by
  refine ⟨fl', by rw [hl]; exact hq, hb.trans h2, fun j x hx => eh_steady.keep (hE j x hx) (fun b hb => hk.block b hb.1 hb.2) (fun b hb => ⟨Nat.lt_of_lt_of_le hb.1 hk.size, fun e => ?_⟩)⟩
  rcases hk.own with h' | h'
  · exact hb.2 (h'.symm.trans e)
  · have := h' b e; omega
theorem take_flat {fl : List Value} {i j : Nat} (h : j < i) : ((fl.take (i * 4)).drop (j * 4)).take 4 = (fl.drop (j * 4)).take 4 := by
  rw [List.drop_take, List.take_take, Nat.min_eq_left (by omega)]
theorem ins_cells {fl : List Value} {v0 v1 v2 v3 : Value} {h : Hd} {K : Nat} {ok : Nat → Prop} (hfl : fl.length = l.length * 4) (hK : K ≤ l.length) (hE : ∀ j x, l[j]? = some x → EH w6 ok x ((fl.drop (j * 4)).take 4)) (hh : EH w6 ok h [v0, v1, v2, v3]) :
    ∀ j x, (l.take K ++ h :: l.drop K)[j]? = some x → EH w6 ok x (((fl.take (K * 4) ++ ([v0, v1, v2, v3] ++ fl.drop (K * 4))).drop (j * 4)).take 4) := by
  intro j x hx
  have hlt : (l.take K).length = K := by rw [List.length_take]; omega
  have hft : (fl.take (K * 4)).length = K * 4 := by rw [List.length_take, hfl]; omega
  rcases Nat.lt_trichotomy j K with hj | hj | hj
  · rw [List.getElem?_append_left (by omega), List.getElem?_take_of_lt hj] at hx
    have e : ((fl.take (K * 4) ++ ([v0, v1, v2, v3] ++ fl.drop (K * 4))).drop (j * 4)).take 4 = (fl.drop (j * 4)).take 4 := by
      rw [List.drop_append_of_le_length (by omega), List.take_append_of_le_length (by rw [List.length_drop]; omega), take_flat hj]
    rw [e]
    exact hE j x hx
  · subst hj
    rw [List.getElem?_append_right (by omega), hlt, Nat.sub_self] at hx
    have hx' : h = x := by simpa using hx
    subst hx'
    have e : ((fl.take (j * 4) ++ ([v0, v1, v2, v3] ++ fl.drop (j * 4))).drop (j * 4)).take 4 = [v0, v1, v2, v3] := by
      rw [List.drop_append_of_le_length (by omega), List.drop_of_length_le (by omega), List.nil_append]
      rfl
    rw [e]
    exact hh
  · rw [List.getElem?_append_right (by omega), hlt] at hx
    obtain ⟨d, rfl⟩ : ∃ d, j = K + 1 + d := ⟨j - (K + 1), by omega⟩
    rw [show K + 1 + d - K = d + 1 by omega, List.getElem?_cons_succ, List.getElem?_drop] at hx
    have e : ((fl.take (K * 4) ++ ([v0, v1, v2, v3] ++ fl.drop (K * 4))).drop ((K + 1 + d) * 4)).take 4 = (fl.drop ((K + d) * 4)).take 4 := by
      rw [List.drop_append, List.drop_of_length_le (by omega), List.nil_append, hft, List.drop_append, List.drop_of_length_le (by show 4 ≤ _; omega), List.nil_append, List.drop_drop]
      congr 2
      show K * 4 + ((K + 1 + d) * 4 - K * 4 - 4) = (K + d) * 4
      omega
    rw [e]
    exact hE (K + d) x hx
theorem del_cells {fl : List Value} {K : Nat} {ok : Nat → Prop} (hfl : fl.length = l.length * 4) (hK : K < l.length) (hE : ∀ j x, l[j]? = some x → EH w6 ok x ((fl.drop (j * 4)).take 4)) :
    ∀ j x, (l.take K ++ l.drop (K + 1))[j]? = some x → EH w6 ok x (((fl.take (K * 4) ++ fl.drop ((K + 1) * 4)).drop (j * 4)).take 4) := by
  intro j x hx
  have hlt : (l.take K).length = K := by rw [List.length_take]; omega
  have hft : (fl.take (K * 4)).length = K * 4 := by rw [List.length_take, hfl]; omega
  rcases Nat.lt_or_ge j K with hj | hj
  · rw [List.getElem?_append_left (by omega), List.getElem?_take_of_lt hj] at hx
    have e : ((fl.take (K * 4) ++ fl.drop ((K + 1) * 4)).drop (j * 4)).take 4 = (fl.drop (j * 4)).take 4 := by
      rw [List.drop_append_of_le_length (by omega), List.take_append_of_le_length (by rw [List.length_drop]; omega), take_flat hj]
    rw [e]
    exact hE j x hx
  · rw [List.getElem?_append_right (by omega), hlt, List.getElem?_drop] at hx
    have e : ((fl.take (K * 4) ++ fl.drop ((K + 1) * 4)).drop (j * 4)).take 4 = (fl.drop ((K + 1 + (j - K)) * 4)).take 4 := by
      rw [List.drop_append, List.drop_of_length_le (by omega), List.nil_append, hft, List.drop_drop]
      congr 2
      omega
    rw [e]
    exact hE _ x hx
end

end Go.Proofs.YtpoalgkgomljmaaDoor

namespace Go.Proofs
open Go.Shelf
open Go.RowKit
def Tryd.sortHeld_ren : Go.Shelf.Ren := ⟨fun | 6 => 38 | 14 => 58 | 15 => 42 | 20 => 76 | 21 => 77 | 22 => 78 | 23 => 79 | 24 => 80 | 25 => 81 | 26 => 82 | 27 => 83 | 28 => 69 | 29 => 70 | 46 => 89 | 47 => 85 | 48 => 86 | 49 => 90 | 50 => 91 | 57 => 93 | n => n, fun | 0 => 0 | 3 => 3 | 4 => 4 | 5 => 5 | 9 => 9 | 22 => 24 | 24 => 39 | 25 => 73 | 39 => 69 | 45 => 98 | 46 => 99 | 50 => 92 | 53 => 27 | 55 => 46 | 66 => 116 | 70 => 120 | 76 => 124 | 77 => 125 | n => n, fun | n => n⟩
theorem Tryd.sortHeld : Go.Proofs.SlLaysF0.n6 Tryd.prog Tryd.sortHeld_ren := {
  mixed := by kernel_rfl
  f6 := ⟨Tryd.f38.name, by decide, Tryd.func38.trans (congrArg some (by kernel_rfl))⟩
  f14 := ⟨Tryd.f58.name, by decide, Tryd.func58.trans (congrArg some (by kernel_rfl))⟩
  f15 := Tryd.func42.trans (congrArg some (by kernel_rfl))
  f20 := ⟨Tryd.f76.name, by decide, Tryd.func76.trans (congrArg some (by kernel_rfl))⟩
  f21 := ⟨Tryd.f77.name, by decide, Tryd.func77.trans (congrArg some (by kernel_rfl))⟩
  f22 := ⟨Tryd.f78.name, by decide, Tryd.func78.trans (congrArg some (by kernel_rfl))⟩
  f23 := ⟨Tryd.f79.name, by decide, Tryd.func79.trans (congrArg some (by kernel_rfl))⟩
  f24 := ⟨Tryd.f80.name, by decide, Tryd.func80.trans (congrArg some (by kernel_rfl))⟩
  f25 := ⟨Tryd.f81.name, by decide, Tryd.func81.trans (congrArg some (by kernel_rfl))⟩
  f26 := ⟨Tryd.f82.name, by decide, Tryd.func82.trans (congrArg some (by kernel_rfl))⟩
  f27 := ⟨Tryd.f83.name, by decide, Tryd.func83.trans (congrArg some (by kernel_rfl))⟩
  f28 := Tryd.func69.trans (congrArg some (by kernel_rfl))
  f29 := Tryd.func70.trans (congrArg some (by kernel_rfl))
  f46 := ⟨Tryd.f89.name, by decide, Tryd.func89.trans (congrArg some (by kernel_rfl))⟩
  f47 := Tryd.func85.trans (congrArg some (by kernel_rfl))
  f48 := Tryd.func86.trans (congrArg some (by kernel_rfl))
  f49 := ⟨Tryd.f90.name, by decide, Tryd.func90.trans (congrArg some (by kernel_rfl))⟩
  f50 := ⟨Tryd.f91.name, by decide, Tryd.func91.trans (congrArg some (by kernel_rfl))⟩
  f57 := ⟨Tryd.f93.name, by decide, Tryd.func93.trans (congrArg some (by kernel_rfl))⟩
  t0 := Tryd.underlying0
  a0 := Tryd.isAgg0
  z0 := Tryd.sizeOf0
  v0 := Tryd.zeroValue0
  t3 := Tryd.underlying3
  a3 := Tryd.isAgg3
  z3 := Tryd.sizeOf3
  v3 := Tryd.zeroValue3
  t4 := Tryd.underlying4
  a4 := Tryd.isAgg4
  z4 := Tryd.sizeOf4
  v4 := Tryd.zeroValue4
  t5 := Tryd.underlying5
  a5 := Tryd.isAgg5
  z5 := Tryd.sizeOf5
  v5 := Tryd.zeroValue5
  t9 := Tryd.underlying9
  a9 := Tryd.isAgg9
  z9 := Tryd.sizeOf9
  v9 := Tryd.zeroValue9
  t22 := Tryd.underlying24
  a22 := Tryd.isAgg24
  z22 := Tryd.sizeOf24
  v22 := Tryd.zeroValue24
  t25 := Tryd.underlying73
  a25 := Tryd.isAgg73
  z25 := Tryd.sizeOf73
  v25 := Tryd.zeroValue73
  t39 := Tryd.underlying69
  a39 := Tryd.isAgg69
  z39 := Tryd.sizeOf69
  v39 := Tryd.zeroValue69
  t45 := Tryd.underlying98
  a45 := Tryd.isAgg98
  z45 := Tryd.sizeOf98
  v45 := Tryd.zeroValue98
  t46 := Tryd.underlying99
  a46 := Tryd.isAgg99
  z46 := Tryd.sizeOf99
  v46 := Tryd.zeroValue99
  t50 := Tryd.underlying92
  a50 := Tryd.isAgg92
  z50 := Tryd.sizeOf92
  v50 := Tryd.zeroValue92
  t53 := Tryd.underlying27
  a53 := Tryd.isAgg27
  z53 := Tryd.sizeOf27
  v53 := Tryd.zeroValue27
  t55 := Tryd.underlying46
  a55 := Tryd.isAgg46
  z55 := Tryd.sizeOf46
  v55 := Tryd.zeroValue46
  t66 := Tryd.underlying116
  a66 := Tryd.isAgg116
  z66 := Tryd.sizeOf116
  v66 := Tryd.zeroValue116
  t70 := Tryd.underlying120
  a70 := Tryd.isAgg120
  z70 := Tryd.sizeOf120
  v70 := Tryd.zeroValue120
  t76 := Tryd.underlying124
  a76 := Tryd.isAgg124
  z76 := Tryd.sizeOf124
  v76 := Tryd.zeroValue124
  t77 := Tryd.underlying125
  a77 := Tryd.isAgg125
  z77 := Tryd.sizeOf125
  v77 := Tryd.zeroValue125
}

end Go.Proofs

namespace Go.Proofs.YtpoalgkgomljmaaDoor
open Go.RowKit Go.Sort

theorem compare64_any (a b : Int) (w : World) : Calls Tryd.prog 40 #[.int .i64 a, .int .i64 b] w fun e w' => e = .returned (.int .i64 (hcmpZ a b)) ∧ w' = w := by
  by_cases h1 : a < b
  · have e : Hid (hcmpZ a b = -1) := Lib.hid (by unfold hcmpZ; rw [if_pos h1])
    go_enter Tryd.func40, Tryd.ntmps40
    go_wp2
    go_ret
    exact ⟨by rw [e.out]; rfl, rfl⟩
  · by_cases h2 : b < a
    · have e : Hid (hcmpZ a b = 1) := Lib.hid (by unfold hcmpZ; rw [if_neg h1, if_pos h2])
      go_enter Tryd.func40, Tryd.ntmps40
      go_wp2
      go_ret
      exact ⟨by rw [e.out]; rfl, rfl⟩
    · have e : Hid (hcmpZ a b = 0) := Lib.hid (by unfold hcmpZ; rw [if_neg h1, if_neg h2])
      go_enter Tryd.func40, Tryd.ntmps40
      go_wp2
      go_ret
      exact ⟨by rw [e.out]; rfl, rfl⟩

/-- a holding with the slice that it bears -/
structure Hc where
  h : Hd
  A : Option Addr
  m : Nat
  c : Nat
instance : Inhabited Hc := ⟨⟨hd0, none, 0, 0⟩⟩
def encH (x : Hc) : List Value := [.int .i64 x.h.id, .slice x.A x.m x.c, .int .i64 x.h.frm, .int .i64 x.h.to]
theorem pick_cells {w : World} {ok : Nat → Prop} : ∀ (l : Tb) (fl : List Value), fl.length = l.length * 4 → (∀ j x, l[j]? = some x → EH w ok x ((fl.drop (j * 4)).take 4)) →
    ∃ p : List Hc, p.map Hc.h = l ∧ (∀ j x, p[j]? = some x → (fl.drop (j * 4)).take 4 = encH x) ∧ ∀ x ∈ p, EH w ok x.h (encH x)
  | [], fl, _, _ => ⟨[], rfl, fun j x h => by simp at h, fun x h => by cases h⟩
  | x :: r, fl, h1, h2 => by
    have e0 := h2 0 x rfl
    obtain ⟨A, m, c, hv, h3⟩ := id e0
    obtain ⟨p, p1, p2, p3⟩ := pick_cells (w := w) (ok := ok) r (fl.drop 4) (by rw [List.length_drop, h1, List.length_cons]; omega) (fun j y hy => by
      have := h2 (j + 1) y (by simpa using hy)
      rwa [show (j + 1) * 4 = 4 + j * 4 by omega, ← List.drop_drop] at this)
    refine ⟨⟨x, A, m, c⟩ :: p, by rw [List.map_cons, p1], fun j y hy => ?_, fun y hy => ?_⟩
    · cases j with
      | zero =>
        have : (⟨x, A, m, c⟩ : Hc) = y := by simpa using hy
        subst this
        exact hv
      | succ j =>
        have := p2 j y (by simpa using hy)
        rw [show (j + 1) * 4 = 4 + j * 4 by omega, ← List.drop_drop]
        exact this
    · rcases List.mem_cons.1 hy with e | e
      · subst e
        show EH w ok x [_, _, _, _]
        exact ⟨A, m, c, rfl, h3⟩
      · exact p3 y e
theorem ltH (x y : Hc) : Go.Proofs.ltOf (fun x y : Hc => hcmpZ x.h.frm y.h.frm) x y = decide (x.h.frm < y.h.frm) := cmpZ_lt _ _
theorem swoH : SWO (Go.Proofs.ltOf fun x y : Hc => hcmpZ x.h.frm y.h.frm) where
  irrefl x := by rw [ltH]; simp
  trans x y z h1 h2 := by rw [ltH] at *; simp at *; omega
  ntrans x y z h1 h2 := by rw [ltH] at *; simp at *; omega
set_option maxHeartbeats 1000000 in
/-- the question that sorts: which of two began earlier -/
theorem byFrom1_any (x y : Hc) (W : World) : Calls Tryd.prog 39 #[.agg #[.int .i64 x.h.id, .slice x.A x.m x.c, .int .i64 x.h.frm, .int .i64 x.h.to], .agg #[.int .i64 y.h.id, .slice y.A y.m y.c, .int .i64 y.h.frm, .int .i64 y.h.to]] W fun e w' => e = .returned (.int .i64 (hcmpZ x.h.frm y.h.frm)) ∧ ∃ q os', w' = grow (W.drewN q) os' := by
  have hcon := fun W' => compare64_any x.h.frm y.h.frm W'
  obtain ⟨r, hr⟩ : ∃ r, hcmpZ x.h.frm y.h.frm = r := ⟨_, rfl⟩
  rw [hr] at hcon ⊢
  go_enter Tryd.func39, Tryd.ntmps39
  go_wp2_with (go_at_call 40; refine (hcon _).mono ?_; rintro e w' ⟨rfl, rfl⟩)
  go_ret
  exact ⟨rfl, 0, _, by rw [alloc_eq_grow, alloc_eq_grow, grow_grow]; rfl⟩

section
variable {w w1 : World} {g m n c : Nat} {d : Array Hc} {os : Array Obj} {cur : Array Value} {T : TypeId}
/-- the world behind a sort, block by block -/
theorem sorted_block (hg : w.heap[g]? = some (.cells cur T (0, 0))) :
    (sortWorldK encH 4 w g 0 m d os).heap[g]? = some (.cells (putCells id 0 (flatK encH 4 d) cur) T (0, 0)) := by
  have hlt : g < w.heap.size := (Array.getElem?_eq_some_iff.1 hg).1
  unfold sortWorldK
  rw [heap_grow_old _ _ (by simp [putRowK, putRow, mapBlock]; exact hlt)]
  show ((Sort.ahead w m).heap.modify g (onCells (putCells id 0 (flatK encH 4 d))))[g]? = _
  rw [Array.getElem?_modify, if_pos rfl]
  show Option.map _ w.heap[g]? = _
  rw [hg]
  rfl
theorem sorted_size : w.heap.size ≤ (sortWorldK encH 4 w g 0 m d os).heap.size := by
  unfold sortWorldK
  simp [putRowK, putRow, mapBlock]
theorem sorted_other {b : Nat} (hb : b < w.heap.size) (hne : b ≠ g) : (sortWorldK encH 4 w g 0 m d os).heap[b]? = w.heap[b]? := by
  unfold sortWorldK
  rw [heap_grow_old _ _ (by simp [putRowK, putRow, mapBlock]; exact hb)]
  show ((Sort.ahead w m).heap.modify g (onCells (putCells id 0 (flatK encH 4 d))))[b]? = _
  rw [Array.getElem?_modify, if_neg (fun e => hne e.symm)]
  rfl
theorem sorted_below {B : Nat} {w0 : World} (h : Below B w0 w) (hB : B ≤ g) (hg : g < w.heap.size) : Below B w0 (sortWorldK encH 4 w g 0 m d os) := by
  exact h.trans ⟨rfl, rfl, rfl, sorted_size, fun b hb => sorted_other (by omega) (by omega)⟩
theorem encH_len (x : Hc) : (encH x).length = 4 := rfl
theorem flat_el {j : Nat} (hj : j < d.size) : ((flatK encH 4 d).toList.drop (j * 4)).take 4 = encH d[j]! := by
  apply List.ext_getElem?
  intro i
  by_cases hi : i < 4
  · rw [List.getElem?_take_of_lt hi, List.getElem?_drop]
    have ht : j * 4 + i < d.size * 4 := by omega
    have h1 := get_flatK encH 4 d (j * 4 + i) ht
    rw [getElem!_pos _ _ (by rw [size_flatK]; exact ht), show (j * 4 + i) / 4 = j by omega, show (j * 4 + i) % 4 = i by omega] at h1
    rw [List.getElem?_eq_getElem (by rw [Array.length_toList, size_flatK]; exact ht), Array.getElem_toList, h1, getElem!_pos _ _ (by rw [encH_len]; exact hi), List.getElem?_eq_getElem]
  · rw [List.getElem?_eq_none (by rw [List.length_take]; omega), List.getElem?_eq_none (by rw [encH_len]; omega)]
theorem put_take (hs : d.size * 4 ≤ cur.size) : (putCells id 0 (flatK encH 4 d) cur).toList.take (d.size * 4) = (flatK encH 4 d).toList := by
  have hF : (flatK encH 4 d).size = d.size * 4 := size_flatK _ _ _
  have hP : (putCells id 0 (flatK encH 4 d) cur).size = cur.size := by simp [putCells]
  apply List.ext_getElem?
  intro t
  by_cases ht : t < d.size * 4
  · rw [List.getElem?_take_of_lt ht, List.getElem?_eq_getElem (by rw [Array.length_toList]; omega), List.getElem?_eq_getElem (by rw [Array.length_toList]; omega), Array.getElem_toList, Array.getElem_toList]
    congr 1
    simp only [putCells, Array.getElem_mapIdx]
    rw [if_pos ⟨Nat.zero_le _, by omega⟩, Nat.sub_zero, getElem!_pos _ _ (by omega)]
    rfl
  · rw [List.getElem?_eq_none (by rw [List.length_take]; omega), List.getElem?_eq_none (by rw [Array.length_toList]; omega)]
/-- a row of holdings that has been sorted -/
theorem rowQ_sorted {ok : Nat → Prop} {B : Nat} {l : Tb} {p : List Hc} (h : RowQ EH 4 T ok B (.slice (some ⟨g, 0, none⟩) n c) l w) (hok : ∀ b, ok b → b < w.heap.size ∧ b ≠ g) (hd : d.size = n) (hp : ∀ x ∈ d.toList, x ∈ p)
    (hE : ∀ x ∈ p, EH w ok x.h (encH x)) : RowQ EH 4 T ok B (.slice (some ⟨g, 0, none⟩) n c) (d.toList.map Hc.h) (sortWorldK encH 4 w g 0 m d os) := by
  obtain ⟨fl, h1, _⟩ := h
  have hln : l.length = n := by
    rcases id h1.2 with ⟨e, _⟩ | ⟨g', cap', cur, e, _⟩
    · cases e
    · injection e with _ e2 _
      exact e2.symm
  have hsl : (d.toList.map Hc.h).length = n := by rw [List.length_map, Array.length_toList, hd]
  have hfl : (flatK encH 4 d).toList.length = n * 4 := by rw [Array.length_toList, size_flatK, hd]
  refine ⟨(flatK encH 4 d).toList, ?_, fun j x hx => ?_⟩
  · rw [hsl]
    rcases id h1.2 with ⟨e, _⟩ | ⟨g', cap', cur, e, e1, e2, e3, e4, e5, _⟩
    · cases e
    · injection e with f1 _ f3
      injection f1 with f1
      injection f1 with f1
      subst f1 f3
      refine ⟨hfl, .inr ⟨g, c, _, rfl, e1, sorted_block e2, by rw [← hln]; exact e3, e4, by simp [putCells]; exact e5, ?_⟩⟩
      rw [← hd]
      exact put_take (by rw [hd, e5]; rw [hln] at e3; exact Nat.mul_le_mul_right 4 e3)
  · have hj : j < d.size := by
      have := (List.getElem?_eq_some_iff.1 hx).1
      rw [hsl] at this
      omega
    have hx' : x = (d[j]!).h := by
      rw [List.getElem?_map, List.getElem?_eq_getElem (by rw [Array.length_toList]; exact hj), Array.getElem_toList] at hx
      rw [getElem!_pos d j hj]
      exact (Option.some.inj hx).symm
    rw [flat_el hj, hx']
    have hm : d[j]! ∈ d.toList := by
      rw [getElem!_pos d j hj, ← Array.getElem_toList (h := by rw [Array.length_toList]; exact hj)]
      exact List.getElem_mem _
    exact eh_steady.keep (hE _ (hp _ hm)) (fun b hb => sorted_other (hok b hb).1 (hok b hb).2) (fun _ h => h)
end
theorem perm_all {d d' : Array Hc} (h : PermIn 0 d.size d d') : d'.toList.Perm d.toList := by
  obtain ⟨h1, _, h3⟩ := h
  rw [Array.extract_eq_self_of_le (by omega), Array.extract_eq_self_of_le (by omega)] at h3
  exact h3

set_option maxRecDepth 100000 in
set_option maxHeartbeats 4000000 in
theorem byFrom_any (B : Nat) (A : Option Addr) (n c : Nat) (l : Tb) (w : World) (hB : B ≤ w.heap.size) (hr : RT w B A n l) (hnil : A = none → c = 0) (hn : n ≤ 1000) :
    Calls Tryd.prog 28 #[.slice A n c] w fun e w' => ∃ v l', e = .returned v ∧ l'.Perm l ∧ (l'.Pairwise fun a b => a.frm ≤ b.frm) ∧ Below w.heap.size w w' ∧ RowQ EH 4 39 (Lt B) w.heap.size v l' w' := by
  have HL := Lib.hid hr.len
  have HC := Lib.hid (cloneQ_any B A n c l w hB hr hnil (by omega))
  have eg : ∀ args w, (callFunc 39 args).run Tryd.prog w = .ok (.enter 39 args) w := Go.Proofs.enters_of Tryd.func39 (by kernel_rfl) rfl
  clear hr hnil
  go_enter Tryd.func28, Tryd.ntmps28
  go_wp2_with fail
  refine HC.out.mono ?_
  rintro e w1 ⟨v, rfl, hb1, hon⟩
  have HB1 := Lib.hid hb1
  obtain ⟨A1, c1, rfl, _, _⟩ := hon.form
  have HO := Lib.hid hon
  rw [HL.out] at HO ⊢
  clear hon hb1
  rcases Nat.eq_zero_or_pos n with h0 | h0
  · subst h0
    have hcon := Go.Proofs.AnyF.slices_SortFunc_none Tryd.sortHeld A1 c1 (.func (.func 39) #[] #[]) w1
    change Calls Tryd.prog 38 _ _ _ at hcon
    have HCON := Lib.hid hcon
    have HE : Hid (l = []) := Lib.hid (List.eq_nil_of_length_eq_zero HL.out)
    clear hcon
    go_wp2_with fail
    refine HCON.out.mono ?_
    rintro e w2 ⟨rfl, rfl⟩
    go_wp2
    go_ret
    exact ⟨_, l, rfl, List.Perm.refl _, by rw [HE.out]; exact List.Pairwise.nil, HB1.out, HO.out⟩
  · obtain ⟨g, _, _, rfl, hgb, hgl, _⟩ := HO.out.at h0
    obtain ⟨fl, f1, f3⟩ := id HO.out
    obtain ⟨p, p1, p2, p3⟩ := pick_cells l fl (by have := f1.1; exact this) f3
    have hpl : p.length = n := by have := congrArg List.length p1; rw [List.length_map, HL.out] at this; exact this
    have hds : p.toArray.size = n := by simpa using hpl
    have hH : HoldsK encH 4 w1 g 0 p.toArray := by
      intro t ht
      rw [size_flatK, hds] at ht
      have hj : t / 4 < p.length := by omega
      have e1 := p2 (t / 4) _ (List.getElem?_eq_getElem hj)
      have hln := f1.1
      rw [HL.out] at f1 hln
      rw [Nat.zero_add, f1.cellAt t ht, f1.frozenAt t]
      refine ⟨?_, rfl⟩
      rw [get_flatK encH 4 p.toArray t (by rw [hds]; exact ht)]
      have e2 : ((fl.drop (t / 4 * 4)).take 4)[t % 4]? = fl[t]? := by
        rw [List.getElem?_take_of_lt (by omega), List.getElem?_drop, show t / 4 * 4 + t % 4 = t by omega]
      rw [← e2, e1, getElem!_pos p.toArray _ (by simpa using hj), getElem!_pos _ _ (by rw [encH_len]; omega)]
      rw [List.getElem?_eq_getElem (by rw [encH_len]; omega)]
      simp
    have hcon := Go.Proofs.AnyQ.slices_SortFunc Tryd.sortHeld 4 Tryd.isAgg39 Tryd.sizeOf39 encH (fun _ => rfl) (fun x v hv => by simp [encH] at hv; rcases hv with rfl | rfl | rfl | rfl <;> rfl) (fun x y => hcmpZ x.h.frm y.h.frm) swoH 39 #[] g 0 c1 p.toArray w1 eg (fun _ _ _ _ x y => byFrom1_any x y _) hH hgl (by rw [hds]; omega)
    change Calls Tryd.prog 38 _ _ _ at hcon
    rw [hds] at hcon
    have HCON := Lib.hid hcon
    have HP : Hid (∀ d' : Array Hc, ∀ m os, PermIn 0 n p.toArray d' → SortedIn (Go.Proofs.ltOf fun x y : Hc => hcmpZ x.h.frm y.h.frm) 0 n d' →
        ∃ l' : Tb, l'.Perm l ∧ (l'.Pairwise fun a b => a.frm ≤ b.frm) ∧ Below w.heap.size w (sortWorldK encH 4 w1 g 0 m d' os) ∧ RowQ EH 4 39 (Lt B) w.heap.size (.slice (some ⟨g, 0, none⟩) n c1) l' (sortWorldK encH 4 w1 g 0 m d' os)) := Lib.hid (fun d' m os hp hs => by
      have hsz : d'.size = n := by rw [hp.1, hds]
      have hperm := perm_all (by rw [hds]; exact hp)
      refine ⟨d'.toList.map Hc.h, ?_, ?_, sorted_below HB1.out hgb hgl, rowQ_sorted HO.out (fun b hb => ⟨Nat.lt_of_lt_of_le hb (Nat.le_trans hB HB1.out.size), fun e => by have hb' : b < B := hb; omega⟩) hsz (p := p) (fun x hx => by simpa using (hperm.mem_iff).1 hx) p3⟩
      · have := hperm.map Hc.h
        rwa [show p.toArray.toList = p from rfl, p1] at this
      · rw [List.pairwise_iff_getElem]
        intro i j hi hj hij
        rw [List.length_map, Array.length_toList] at hi hj
        have := hs i j (Nat.zero_le _) hij (by omega)
        rw [ltH, decide_eq_false_iff_not, getElem!_pos d' i hi, getElem!_pos d' j hj] at this
        rw [List.getElem_map, List.getElem_map, Array.getElem_toList, Array.getElem_toList]
        omega)
    clear hcon hH p1 p2 p3 f1 f3 eg hgb hgl hpl hds
    go_wp2_with fail
    refine HCON.out.mono ?_
    rintro e w2 ⟨rfl, d', m, os, hp, hs, rfl⟩
    have HF := Lib.hid (HP.out d' m os hp hs)
    clear hp hs
    go_wp2
    go_ret
    obtain ⟨l', h1, h2, h3, h4⟩ := HF.out
    exact ⟨_, l', rfl, h1, h2, h3, h4⟩

end Go.Proofs.YtpoalgkgomljmaaDoor

namespace Go.Proofs.YtpoalgkgomljmaaDoor
open Go.RowKit

/-- the cells of marks -/
def tillA (p : Nat → Int) : Array Value := ((List.range 256).map fun k => Value.int .i64 (p k)).toArray
theorem tillA_size (p : Nat → Int) : (tillA p).size = 256 := by unfold tillA; simp
theorem tillA_at (p : Nat → Int) {k : Nat} (hk : k < 256) : (tillA p)[k]? = some (.int .i64 (p k)) := by unfold tillA; simp [hk]
/-- one mark more, or less -/
def tset (p : Nat → Int) (k : Nat) (b : Int) : Nat → Int := fun j => if j = k then b else p j
theorem tset_same (p : Nat → Int) (k : Nat) (b : Int) : tset p k b k = b := by unfold tset; rw [if_pos rfl]
theorem tset_other (p : Nat → Int) {k j : Nat} (b : Int) (h : j ≠ k) : tset p k b j = p j := by unfold tset; rw [if_neg h]
theorem tillA_set (p : Nat → Int) (k : Nat) (b : Int) : (tillA p).setIfInBounds k (.int .i64 b) = tillA (tset p k b) := by
  apply Array.ext
  · simp [tillA_size]
  · intro j h1 h2
    rw [tillA_size] at h2
    have e2 := tillA_at (tset p k b) h2
    rw [Array.getElem?_eq_getElem (by rw [tillA_size]; exact h2)] at e2
    have e2' := Option.some.inj e2
    rw [e2', Array.getElem_setIfInBounds (by rw [tillA_size]; exact h2)]
    split
    · rename_i h; subst h; rw [tset_same]
    · rename_i h
      have e1 := tillA_at p h2
      rw [Array.getElem?_eq_getElem (by rw [tillA_size]; exact h2)] at e1
      rw [Option.some.inj e1, tset_other _ _ (fun e => h e.symm)]
theorem tillA_ext {p q : Nat → Int} (h : ∀ k, k < 256 → p k = q k) : tillA p = tillA q := by
  unfold tillA
  congr 1
  apply List.map_congr_left
  intro k hk
  rw [h k (List.mem_range.1 hk)]

theorem tills_closed : (Tryd.prog.info? 61).map (fun i => (i.zero.map Value.cells, i.size)) = some (some (tillA fun _ => 0), 256) := by kernel_rfl
theorem tills_size : (Tryd.prog.info? 61).map (·.size) = some 256 := by kernel_rfl

/-- marks in a new block, behind a world -/
structure TillM (W : World) (p : Nat → Int) (wr : World) : Prop where
  bel : Below W.heap.size W wr
  at' : wr.heap[W.heap.size]? = some (.cells (tillA p) 61 (0, 0))
section
variable {W wr w' : World} {p : Nat → Int} {k : Nat}
theorem TillM.lt (h : TillM W p wr) : W.heap.size < wr.heap.size := (Array.getElem?_eq_some_iff.1 h.at').1
theorem TillM.cell (h : TillM W p wr) (hk : k < 256) : wr.cell? ⟨W.heap.size, k, none⟩ = some (.int .i64 (p k)) := by
  rw [cell_of_row _ _ _ _ _ _ h.at', tillA_at p hk]
theorem TillM.frozen (h : TillM W p wr) (k : Nat) : wr.frozen? ⟨W.heap.size, k, none⟩ = false := frozen_of_row _ _ _ _ _ h.at'
theorem TillM.next (h : TillM W p wr) (hb : Below wr.heap.size wr w') : TillM W p w' := ⟨h.bel.trans (hb.mono h.bel.size), (hb.block _ h.lt).trans h.at'⟩
theorem TillM.drewN (h : TillM W p wr) (q : Nat) : TillM W p (wr.drewN q) := h.next (bel_drew wr q)
theorem TillM.set (h : TillM W p wr) (b : Int) : TillM W (tset p k b) (wr.setCell ⟨W.heap.size, k, none⟩ (.int .i64 b)) := by
  refine ⟨h.bel.setCell (Nat.le_refl _) _, ?_⟩
  rw [heap_setCell_same wr W.heap.size k _ _ _ h.at', tillA_set]
theorem TillM.ext {q : Nat → Int} (h : TillM W p wr) (he : ∀ k, k < 256 → p k = q k) : TillM W q wr := ⟨h.bel, by rw [h.at', tillA_ext he]⟩
theorem tills_made (W : World) : TillM W (fun _ => 0) (W.alloc (.cells (tillA fun _ => 0) 61)) :=
  ⟨(Below.refl _ _).alloc (Nat.le_refl _) _, heap_alloc_new W _⟩
theorem tills_boxed (W : World) (p : Nat → Int) : TillM W p (W.alloc (.cells (tillA p) 61)) :=
  ⟨(Below.refl _ _).alloc (Nat.le_refl _) _, heap_alloc_new W _⟩
end

/-- 'var in marks' -/
theorem wpList_alloc_tills {ops : Array Oper} {rest : List Oper} {o : Oper} {a : Act} {Q : Exit → Act → World → Prop} {w : World} (hgd : o.guard = none) (ho : o.op = .alloc 61)
    (h : ∀ w', TillM w (fun _ => 0) w' → wpList Tryd.prog ops Q rest (a.put o.dst (.pointer (some ⟨w.heap.size, 0, none⟩))) w') : wpList Tryd.prog ops Q (o :: rest) a w := by
  refine wpList_plain hgd fun K hK => ?_
  have hc := tills_closed
  cases hi : Tryd.prog.info? 61 with
  | none => rw [hi] at hc; cases hc
  | some i =>
    rw [hi] at hc
    simp only [Option.map_some, Option.some.injEq, Prod.mk.injEq] at hc
    obtain ⟨z, hz, hzc⟩ : ∃ z, i.zero = some z ∧ z.cells = tillA fun _ => 0 := by
      cases hz : i.zero with
      | none => rw [hz] at hc; cases hc.1
      | some z => rw [hz] at hc; exact ⟨z, rfl, Option.some.inj hc.1⟩
    have hrun : (Instr.alloc 61 true (.tuple #[])).run Tryd.prog w = .ok (.pointer (some ⟨w.heap.size, 0, none⟩)) (w.alloc (.cells (tillA fun _ => 0) 61)) := by
      simp [Instr.alloc, zeroValue, typeInfo, hi, hz, newVar, newRow, hzc]
    unfold Oper.wp
    simp [execOp, ho, hrun, Result.andThen]
    exact hK _ _ (h _ (tills_made w))
/-- 'in', as a value -/
theorem wpList_load_tills {ops : Array Oper} {rest : List Oper} {o : Oper} {a : Act} {Q : Exit → Act → World → Prop} {W w : World} {p : Nat → Int} (hgd : o.guard = none) (x : Operand) (ho : o.op = .load 61 x)
    (hm : TillM W p w) (hx : a.eval x = .pointer (some ⟨W.heap.size, 0, none⟩))
    (h : wpList Tryd.prog ops Q rest (a.put o.dst (.agg (tillA p))) w) : wpList Tryd.prog ops Q (o :: rest) a w :=
  wpList_load_row hgd _ x ho W.heap.size hx _ (tillA p) (0, 0) _ hm.at' Tryd.underlying61 rfl (by rw [tills_size, tillA_size]) h

end Go.Proofs.YtpoalgkgomljmaaDoor

namespace Go.Proofs.YtpoalgkgomljmaaDoor
open Go.RowKit

set_option maxRecDepth 100000 in
set_option maxHeartbeats 8000000 in
theorem twice_any (A : Option Addr) (n c : Nat) (l : Tb) (w : World) (hr : RT w w.heap.size A n l) (hnil : A = none → c = 0) (hf : FewT l) (hm : ∀ x ∈ l, MayH x) :
    Calls Tryd.prog 18 #[.slice A n c] w fun e w' => e = .returned (.bool (twiceB l)) ∧ Below w.heap.size w w' := by
  have HL := Lib.hid hr.len
  have HM := Lib.hid hm
  have HF := Lib.hid hf
  have hn : n ≤ 100 := by rw [← hr.len]; exact hf.1
  have HR := Lib.hid hr
  have HNIL := Lib.hid hnil
  obtain ⟨v, hv⟩ : ∃ v, twiceB l = v := ⟨_, rfl⟩
  have HV := Lib.hid hv
  rw [hv]
  clear hr hnil hf hm hv
  go_enter Tryd.func18, Tryd.ntmps18
  go_wp2_with (with_reducible refine wpList_alloc_tills rfl rfl ?_; intro w2 hm; refine Hid.out ?_)
  refine Lib.hid ?_
  have HT2 := Lib.hid hm
  clear hm
  go_wp2_with fail
  refine (byFrom_any w.heap.size A n c l w2 HT2.out.bel.size (HR.out.below HT2.out.bel) HNIL.out (by omega)).mono ?_
  rintro e w3 ⟨v1, m, rfl, hp, hs, hb3, hq3⟩
  obtain ⟨A1, c1, rfl, _, _⟩ := hq3.form
  have hml : m.length = n := by rw [hp.length_eq, HL.out]
  have HML := Lib.hid hml
  have HQ3 := Lib.hid hq3
  have HT3 := Lib.hid (HT2.out.next hb3)
  have HG2 : Hid (w.heap.size < w2.heap.size) := Lib.hid HT2.out.lt
  have HMM : Hid (∀ x ∈ m, MayH x ∧ x.things.length ≤ 100) := Lib.hid (fun x hx => ⟨HM.out x ((hp.mem_iff).1 hx), HF.out.2 x ((hp.mem_iff).1 hx)⟩)
  have HS := Lib.hid hs
  have HP : Hid (NoClash m ↔ NoClash l) := Lib.hid (noClash_perm hp)
  rw [hml] at HQ3 ⊢
  clear hp hs hb3 hq3 hml
  go_wp2
  go_loopw [11] (fun i wr => ∃ (k : Nat) (t : Nat → Int), k ≤ n ∧ i = .int .i64 k ∧ TillM w t wr ∧ Till m k 0 t ∧ RowQ EH 4 39 (Lt w.heap.size) w2.heap.size (.slice A1 n c1) m wr) (fun i _ => n - (intOf i).toNat)
  case atStart => exact ⟨0, _, Nat.zero_le _, rfl, HT3.out, till_zero m, HQ3.out⟩
  case round =>
    obtain ⟨k, t, hk, rfl, htm, htl, hq⟩ := hrel
    have HTM := Lib.hid htm
    have HTL := Lib.hid htl
    have HQ := Lib.hid hq
    clear htm htl hq
    by_cases hlt : k < n
    · have hkm : k < m.length := by rw [HML.out]; exact hlt
      obtain ⟨g, x, vs, e, hgb, hgl, hx, _, hc, A2, m2, c2, hvs, hrn, h1, h2, h3, h4⟩ := HQ.out.at hlt
      subst e hvs
      have hxx : m.getD k hd0 = x := by rw [List.getD, hx]; rfl
      have hxm : x ∈ m := List.mem_of_getElem? hx
      have hmay := (HMM.out x hxm).1
      have hm100 : m2 ≤ 100 := by have := (HMM.out x hxm).2; have := hrn.1; omega
      have HX : Hid (RI w w.heap.size A2 m2 x.things) := Lib.hid (RN.ri (hrn.keep ei_steady (fun b hb => (HTM.out.bel.block b hb).symm) (fun _ h => h)))
      have HXX := Lib.hid hxx
      have HMAY := Lib.hid hmay
      have HX2 := Lib.hid hrn.1
      have c0 := hc 0 _ rfl
      have c1' := hc 1 _ rfl
      have c2' := hc 2 _ rfl
      have c3' := hc 3 _ rfl
      rw [Nat.add_zero] at c0
      have hba : Below wr.heap.size wr (wr.alloc (hO x A2 m2 c2)) := (Below.refl _ _).alloc (Nat.le_refl _) _
      have HTA := Lib.hid (HTM.out.next hba)
      have HQA : Hid (RowQ EH 4 39 (Lt w.heap.size) w2.heap.size (.slice (some ⟨g, 0, none⟩) n c1) m (wr.alloc (hO x A2 m2 c2))) := Lib.hid (HQ.out.keep eh_steady (fun b hb => hba.block b (by
        rcases hb with hb | hb
        · exact Nat.lt_of_lt_of_le hb HTM.out.bel.size
        · exact (HQ.out.own b hb).2)))
      have HBX : Hid (BoxH (wr.alloc (hO x A2 m2 c2)) wr.heap.size x A2 m2 c2) := Lib.hid (boxH_new wr x A2 m2 c2)
      have HGX : Hid (w.heap.size < wr.heap.size ∧ g ≠ wr.heap.size) := Lib.hid ⟨HTM.out.lt, by omega⟩
      unfold hO at HTA HQA HBX
      obtain ⟨Wa, hWa⟩ : ∃ Wa, wr.alloc (.cells #[.int .i64 x.id, .slice A2 m2 c2, .int .i64 x.frm, .int .i64 x.to] 39) = Wa := ⟨_, rfl⟩
      rw [hWa] at HTA HQA HBX
      have q1 := HBX.out.c1
      clear hx hc hrn h1 h2 h3 h4 hba hgb hgl hxm hmay hkm hxx
      go_wp2_with (simp only [hWa])
      clear hWa q1
      go_loopw [18] (fun i wq => ∃ (j : Nat) (t : Nat → Int), j ≤ m2 ∧ i = .int .i64 j ∧ TillM w t wq ∧ Till m k j t ∧ RowQ EH 4 39 (Lt w.heap.size) w2.heap.size (.slice (some ⟨g, 0, none⟩) n c1) m wq ∧ BoxH wq wr.heap.size x A2 m2 c2) (fun i _ => m2 - (intOf i).toNat)
      case atStart => exact ⟨0, t, Nat.zero_le _, rfl, HTA.out, HTL.out, HQA.out, HBX.out⟩
      case round =>
        obtain ⟨j, t1, hj, rfl, htm, htl, hq, hbx⟩ := hrel
        have HTM1 := Lib.hid htm
        have HTL1 := Lib.hid htl
        have HQ1 := Lib.hid hq
        have HBX1 := Lib.hid hbx
        clear htm htl hq hbx
        by_cases hltj : j < m2
        · have hkm : k < m.length := by rw [HML.out]; exact hlt
          have hjl : j < (m.getD k hd0).things.length := by rw [HXX.out, HX2.out]; exact hltj
          obtain ⟨b2, o2, rfl, _, hcy⟩ := (HX.out.below HTM1.out.bel).one hltj
          have hym := right_mem HMAY.out.2.1 _ (z_mem (show j < x.things.length by rw [HX2.out]; exact hltj))
          obtain ⟨y, hy⟩ : ∃ y, x.things.getD j 0 = y := ⟨_, rfl⟩
          rw [hy] at hcy hym
          obtain ⟨q, rfl⟩ : ∃ q : Nat, y = (q : Int) := ⟨y.toNat, by omega⟩
          have hq256 : q < 256 := by omega
          have hqz : (q : Int) < 256 := by omega
          have HBAD := Lib.hid (HTL1.out.bad (fun z hz => (HMM.out z hz).1) HS.out hkm hjl)
          have HNXT := Lib.hid (HTL1.out.next (fun z hz => (HMM.out z hz).1) hkm hjl)
          rw [HXX.out, hy, Int.toNat_natCast] at HBAD HNXT
          have f2 := HBX1.out.c2
          have f3 := HBX1.out.c3
          have ht := HTM1.out.cell hq256
          have hz := HTM1.out.frozen q
          obtain ⟨tq, htq⟩ : ∃ tq, t1 q = tq := ⟨_, rfl⟩
          rw [htq] at HBAD HNXT ht
          clear hy hym hkm hjl htq
          by_cases hbad : x.frm < tq
          · have d0 : decide (x.frm < tq) = true := decide_eq_true hbad
            have HRES : Hid (v = true) := Lib.hid (by
              rw [← HV.out]
              unfold twiceB
              rw [decide_eq_false (fun h => HBAD.out hbad (HP.out.2 h))]
              rfl)
            clear hbad
            go_wp2
            go_quiet (fail)
            go_wp2
            go_ret
            exact ⟨by rw [HRES.out]; rfl, HTM1.out.bel.trans (bel_drew _ _ |>.mono (by first | exact HTM1.out.bel.size | simp))⟩
          · have d0 : decide (x.frm < tq) = false := decide_eq_false hbad
            have HN := Lib.hid (HNXT.out hbad)
            clear hbad
            go_wp2
            go_quiet (fail)
            go_wp2
            go_roundw
            case rel => exact ⟨j + 1, tset t1 q x.to, by omega, by go_num, (HTM1.out.drewN _).set _, HN.out, HQ1.out.keep eh_steady (fun b hb => by
                refine (Below.heap_setCell _ _ _ _ ?_).trans rfl
                rcases hb with hb | hb
                · exact Nat.ne_of_lt hb
                · have := (HQ1.out.own b hb).1
                  have := HG2.out
                  show b ≠ w.heap.size
                  omega), (HBX1.out.next (bel_drew _ _)).other (by have := HGX.out.1; omega)⟩
            case measure => simp [intOf]; omega
        · have hjm : j = m2 := by omega
          have HN := Lib.hid (HTL1.out.step (by rw [HML.out]; exact hlt) (by rw [HXX.out, HX2.out]; omega))
          go_wp2
          go_roundw
          case rel => exact ⟨k + 1, t1, by omega, by go_num, HTM1.out, HN.out, HQ1.out⟩
          case measure => simp [intOf]; omega
    · have hkn : k = n := by omega
      have HRES : Hid (v = false) := Lib.hid (by
        rw [← HV.out]
        unfold twiceB
        rw [decide_eq_true (HP.out.1 (HTL.out.all (by rw [HML.out]; omega)))]
        rfl)
      go_wp2
      go_ret
      exact ⟨by rw [HRES.out]; rfl, HTM.out.bel⟩

end Go.Proofs.YtpoalgkgomljmaaDoor
