/- The first time of several profiles, as the reference tries it: what it is, in plain words. No program's text is walked here. -/
import Derived.Test.YtkhnlbkghjjdnaaPoolsReads
import Derived.Test.YtkhnlbkghjjdnaaStepFirstMath
namespace Go.Proofs.Ytkhnlbkghjjdnaa
open Go.RowKit

/-- is there enough of each kind, from a time on, as the reference asks it -/
def fitsPP (ls : List (List (Int × Int))) (t l : Int) (ns : List Int) : Bool := decide (∀ j, j < ls.length → ¬ leastR (ls.getD j []) t (plusZ t l) < ns.getD j 0)
def goodPP (ls : List (List (Int × Int))) (a l : Int) (ns : List Int) : Bool :=
  rightPP ls && decide (ns.length = ls.length ∧ 0 ≤ a ∧ a < NEVER ∧ 1 ≤ l ∧ ∀ j, j < ns.length → 0 ≤ ns.getD j 0 ∧ ns.getD j 0 ≤ MAXF)
def testPP (ls : List (List (Int × Int))) (a l : Int) (ns : List Int) (t : Int) : Bool := decide (a ≤ t ∧ t < NEVER) && fitsPP ls t l ns
def bestF (test : Int → Bool) (best t : Int) : Int := if test t = true ∧ (best < 0 ∨ t < best) then t else best
/-- the tried times, group by group: the beginning, then each profile's -/
def grp (ls : List (List (Int × Int))) (a : Int) (m : Nat) : List Int := if m = 0 then [a] else (ls.getD (m - 1) []).map (·.1)
def preG (ls : List (List (Int × Int))) (a : Int) (m : Nat) : List Int := (List.range m).flatMap (grp ls a)
theorem preG_succ (ls : List (List (Int × Int))) (a : Int) (m : Nat) : preG ls a (m + 1) = preG ls a m ++ grp ls a m := by simp [preG, List.range_succ, List.flatMap_append]
def firstPP (ls : List (List (Int × Int))) (a l : Int) (ns : List Int) : Int × Bool :=
  if goodPP ls a l ns = false then (0, false) else
    if (preG ls a (ls.length + 1)).foldl (bestF (testPP ls a l ns)) (-1) < 0 then (0, false) else ((preG ls a (ls.length + 1)).foldl (bestF (testPP ls a l ns)) (-1), true)

/-- the least of those that meet the test -/
theorem best_fold (test : Int → Bool) (hpos : ∀ s, test s = true → 0 ≤ s) : ∀ (cs : List Int) (b : Int), (b = -1 ∨ 0 ≤ b) →
    (cs.foldl (bestF test) b = b ∨ (cs.foldl (bestF test) b ∈ cs ∧ test (cs.foldl (bestF test) b) = true)) ∧
    (cs.foldl (bestF test) b = -1 ∨ 0 ≤ cs.foldl (bestF test) b) ∧
    (0 ≤ b → 0 ≤ cs.foldl (bestF test) b ∧ cs.foldl (bestF test) b ≤ b) ∧
    ∀ s ∈ cs, test s = true → 0 ≤ cs.foldl (bestF test) b ∧ cs.foldl (bestF test) b ≤ s
  | [], b, hb => ⟨.inl rfl, hb, fun h => ⟨h, Int.le_refl _⟩, fun s hs => by cases hs⟩
  | c :: cs, b, hb => by
    simp only [List.foldl_cons]
    by_cases hc : test c = true ∧ (b < 0 ∨ c < b)
    · have e : bestF test b c = c := by unfold bestF; rw [if_pos hc]
      rw [e]
      have hc0 := hpos c hc.1
      obtain ⟨h1, h2, h3, h4⟩ := best_fold test hpos cs c (.inr hc0)
      have h3' := h3 hc0
      refine ⟨?_, h2, fun h => ⟨h3'.1, by omega⟩, fun s hs ht => ?_⟩
      · rcases h1 with h1 | h1
        · rw [h1]; exact .inr ⟨List.mem_cons_self, hc.1⟩
        · exact .inr ⟨List.mem_cons_of_mem _ h1.1, h1.2⟩
      · rcases List.mem_cons.1 hs with rfl | hs
        · exact h3'
        · exact h4 s hs ht
    · have e : bestF test b c = b := by unfold bestF; rw [if_neg hc]
      rw [e]
      obtain ⟨h1, h2, h3, h4⟩ := best_fold test hpos cs b hb
      refine ⟨h1.imp id (fun h => ⟨List.mem_cons_of_mem _ h.1, h.2⟩), h2, h3, fun s hs ht => ?_⟩
      rcases List.mem_cons.1 hs with rfl | hs
      · have hb0 : 0 ≤ b := by
          rcases hb with h | h
          · exact absurd ⟨ht, .inl (by omega)⟩ hc
          · exact h
        have := h3 hb0
        have hcb : ¬ s < b := fun h => hc ⟨ht, .inr h⟩
        exact ⟨this.1, by omega⟩
      · exact h4 s hs ht

/-- enough of each kind for so long -/
def HoldsPP (ls : List (List (Int × Int))) (l : Int) (ns : List Int) (t : Int) : Prop := ∀ j, j < ls.length → Holds (ls.getD j []) l (ns.getD j 0) t
def IsFirstPP (ls : List (List (Int × Int))) (a l : Int) (ns : List Int) (t : Int) : Prop := a ≤ t ∧ t < NEVER ∧ HoldsPP ls l ns t ∧ ∀ e, a ≤ e → e < t → ¬ HoldsPP ls l ns e
theorem IsFirstPP.unique {ls : List (List (Int × Int))} {a l : Int} {ns : List Int} {t u : Int} (h : IsFirstPP ls a l ns t) (h' : IsFirstPP ls a l ns u) : t = u := by
  rcases Int.lt_trichotomy t u with hlt | heq | hgt
  · exact absurd h.2.2.1 (h'.2.2.2 t h.1 hlt)
  · exact heq
  · exact absurd h'.2.2.1 (h.2.2.2 u h'.1 hgt)
theorem mem_preG {ls : List (List (Int × Int))} {a : Int} {s : Int} : s ∈ preG ls a (ls.length + 1) ↔ s = a ∨ ∃ j, j < ls.length ∧ s ∈ (ls.getD j []).map (·.1) := by
  unfold preG
  rw [List.mem_flatMap]
  constructor
  · rintro ⟨m, hm, hs⟩
    rw [List.mem_range] at hm
    unfold grp at hs
    split at hs
    · exact .inl (by simpa using hs)
    · exact .inr ⟨m - 1, by omega, hs⟩
  · rintro (rfl | ⟨j, hj, hs⟩)
    · exact ⟨0, List.mem_range.2 (by omega), by simp [grp]⟩
    · exact ⟨j + 1, List.mem_range.2 (by omega), by simpa [grp] using hs⟩
/-- a time at which it holds: at an earlier one of the tried it holds too -/
theorem holdsPP_earlier {ls : List (List (Int × Int))} (hp : ∀ j, j < ls.length → Canon (ls.getD j [])) {a l e : Int} {ns : List Int} (h0 : 0 ≤ a) (hl : 1 ≤ l) (hfe : a ≤ e) (heN : e < NEVER) (h : HoldsPP ls l ns e) :
    ∃ s, s ∈ preG ls a (ls.length + 1) ∧ a ≤ s ∧ s ≤ e ∧ HoldsPP ls l ns s := by
  obtain ⟨s, h1, h2, h3, h4⟩ := last_at (preG ls a (ls.length + 1)) a e hfe
  have hs : s ∈ preG ls a (ls.length + 1) := by
    rcases h1 with rfl | h1
    · exact mem_preG.2 (.inl rfl)
    · exact h1
  refine ⟨s, hs, h2, h3, fun j hj u hu1 hu2 => ?_⟩
  have hc := hp j hj
  have hx4 : ∀ x ∈ ls.getD j [], x.1 ≤ s ∨ e < x.1 := fun x hx => h4 x.1 (mem_preG.2 (.inr ⟨j, hj, List.mem_map.2 ⟨x, hx, rfl⟩⟩))
  by_cases hue : u < e
  · have e1 : atP (ls.getD j []) s = atP (ls.getD j []) u := atP_const hc hu1 (by omega) fun x hx => by
      rcases hx4 x hx with h | h
      · exact .inl h
      · exact .inr (by omega)
    have e2 : atP (ls.getD j []) s = atP (ls.getD j []) e := atP_const hc h3 (by omega) hx4
    rw [← e1, e2]
    exact h j hj e (Int.le_refl _) (plus_lt heN hl).1
  · refine h j hj u (by omega) ?_
    unfold plus at hu2 ⊢
    split at hu2 <;> split <;> omega
theorem fitsPP_is {ls : List (List (Int × Int))} (hp : ∀ j, j < ls.length → Canon (ls.getD j [])) {t l : Int} {ns : List Int} (h0 : 0 ≤ t) (h1 : t < NEVER) (hl : 1 ≤ l) : fitsPP ls t l ns = true ↔ HoldsPP ls l ns t := by
  have hpl := plus_lt h1 hl
  unfold fitsPP
  rw [decide_eq_true_eq]
  constructor
  · intro h j hj
    have := h j hj
    rw [leastR_is (hp j hj) h0, plusZ_is h0 (by unfold NEVER at h1; omega) hl] at this
    exact (holds_least (least_is (hp j hj) h0 hpl.1)).1 (by omega)
  · intro h j hj
    have := (holds_least (least_is (hp j hj) h0 hpl.1)).2 (h j hj)
    rw [leastR_is (hp j hj) h0, plusZ_is h0 (by unfold NEVER at h1; omega) hl]
    omega
theorem rightPP_canon {ls : List (List (Int × Int))} (h : rightPP ls = true) : ∀ j, j < ls.length → Canon (ls.getD j []) ∧ Bounded (ls.getD j []) ∧ (ls.getD j []).length ≤ 1024 := by
  unfold rightPP at h
  rw [decide_eq_true_eq] at h
  exact fun j hj => (rightP_iff _).1 (h.2.2 j hj)
/-- what the first time is, or there is none -/
theorem firstPP_is {ls : List (List (Int × Int))} {a l : Int} {ns : List Int} (h : goodPP ls a l ns = true) :
    (∃ t, firstPP ls a l ns = (t, true) ∧ IsFirstPP ls a l ns t) ∨ (firstPP ls a l ns = (0, false) ∧ ∀ e, a ≤ e → e < NEVER → ¬ HoldsPP ls l ns e) := by
  have hg := h
  unfold goodPP at hg
  rw [Bool.and_eq_true, decide_eq_true_eq] at hg
  obtain ⟨hr, hlen, h0, h1, hl, hns⟩ := hg
  have hcan : ∀ j, j < ls.length → Canon (ls.getD j []) := fun j hj => (rightPP_canon hr j hj).1
  have htest : ∀ t, testPP ls a l ns t = true ↔ a ≤ t ∧ t < NEVER ∧ HoldsPP ls l ns t := by
    intro t
    unfold testPP
    rw [Bool.and_eq_true, decide_eq_true_eq]
    constructor
    · rintro ⟨⟨g1, g2⟩, g3⟩
      exact ⟨g1, g2, (fitsPP_is hcan (by omega) g2 hl).1 g3⟩
    · rintro ⟨g1, g2, g3⟩
      exact ⟨⟨g1, g2⟩, (fitsPP_is hcan (by omega) g2 hl).2 g3⟩
  obtain ⟨b1, b2, _, b4⟩ := best_fold (testPP ls a l ns) (fun s hs => by have := (htest s).1 hs; omega) (preG ls a (ls.length + 1)) (-1) (.inl rfl)
  unfold firstPP
  rw [if_neg (by rw [h]; simp)]
  generalize (preG ls a (ls.length + 1)).foldl (bestF (testPP ls a l ns)) (-1) = r at *
  by_cases hr0 : r < 0
  · rw [if_pos hr0]
    refine .inr ⟨rfl, fun e he1 he2 hh => ?_⟩
    obtain ⟨s, g1, g2, g3, g4⟩ := holdsPP_earlier hcan h0 hl he1 he2 hh
    have := b4 s g1 ((htest s).2 ⟨g2, by omega, g4⟩)
    omega
  · rw [if_neg hr0]
    have hb : testPP ls a l ns r = true := by
      rcases b1 with b1 | b1
      · omega
      · exact b1.2
    obtain ⟨g1, g2, g3⟩ := (htest r).1 hb
    refine .inl ⟨r, rfl, g1, g2, g3, fun e he1 he2 hh => ?_⟩
    obtain ⟨s, k1, k2, k3, k4⟩ := holdsPP_earlier hcan h0 hl he1 (by omega) hh
    have := b4 s k1 ((htest s).2 ⟨k2, by omega, k4⟩)
    omega
theorem firstPP_bad {ls : List (List (Int × Int))} {a l : Int} {ns : List Int} (h : goodPP ls a l ns = false) : firstPP ls a l ns = (0, false) := by unfold firstPP; rw [if_pos h]

end Go.Proofs.Ytkhnlbkghjjdnaa
