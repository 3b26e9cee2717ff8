/- The first time, as the reference tries it: what it is, in plain words. No program's text is walked here. -/
import Derived.Test.YtkhnlbkghjjdnaaStepRefTake
import Derived.Test.YtkhnlbkghjjdnaaWhenRef
namespace Go.Proofs.Ytkhnlbkghjjdnaa
open Go.RowKit

def goodF (p : List (Int × Int)) (a l n : Int) : Bool := rightP p && decide (0 ≤ a ∧ a < NEVER ∧ 1 ≤ l ∧ 0 ≤ n ∧ n ≤ MAXF)
def tryF (p : List (Int × Int)) (a l n t : Int) : Bool := decide (a ≤ t ∧ t < NEVER ∧ n ≤ leastR p t (plusZ t l))
def cands (p : List (Int × Int)) (a : Int) : List Int := a :: p.map (·.1)
def firstR (p : List (Int × Int)) (a l n : Int) : Int × Bool :=
  if goodF p a l n = false then (0, false) else match (cands p a).find? (tryF p a l n) with
    | some t => (t, true)
    | none => (0, false)
theorem find_first {α : Type} (f : α → Bool) (d : α) : ∀ (l : List α) (k : Nat), k < l.length → (∀ j, j < k → f (l.getD j d) = false) → f (l.getD k d) = true → l.find? f = some (l.getD k d)
  | [], k, h, _, _ => absurd h (by simp)
  | x :: l, 0, _, _, h => by
    have h' : f x = true := h
    simp [List.find?, h']
  | x :: l, k + 1, hk, hj, h => by
    have h0 : f x = false := hj 0 (by omega)
    rw [List.find?_cons_of_neg (by rw [h0]; simp)]
    exact find_first f d l k (by simpa using hk) (fun j hjk => hj (j + 1) (by omega)) h
theorem find_none {α : Type} (f : α → Bool) (d : α) : ∀ (l : List α), (∀ j, j < l.length → f (l.getD j d) = false) → l.find? f = none
  | [], _ => rfl
  | x :: l, hj => by
    have h0 : f x = false := hj 0 (by simp)
    rw [List.find?_cons_of_neg (by rw [h0]; simp)]
    exact find_none f d l fun j hjl => hj (j + 1) (by simpa using hjl)

/-- First, of whatever was asked -/
theorem firstR_bad {p : List (Int × Int)} {a l n : Int} (h : (rightP p = true ∧ 0 ≤ a ∧ a < 4611686018427387904 ∧ 1 ≤ l ∧ 0 ≤ n ∧ n ≤ 1048576) → False) : firstR p a l n = (0, false) := by
  unfold firstR
  rw [if_pos]
  unfold goodF NEVER MAXF
  rw [Bool.and_eq_false_iff, decide_eq_false_iff_not]
  by_cases hp : rightP p = true
  · exact .inr fun hh => h ⟨hp, hh⟩
  · exact .inl (by simpa using hp)
/-- What First answers is the first time of all, or there is none. -/
theorem plusZ_is {t l : Int} (h0 : 0 ≤ t) (h1 : t ≤ 4611686018427387904) (hl : 1 ≤ l) : plusZ t l = plus t l := by
  unfold plusZ plus nearZ NEVER
  repeat' split
  all_goals omega
theorem firstR_is {p : List (Int × Int)} {a l n : Int} (hp : rightP p = true) (h0 : 0 ≤ a) (h1 : a < 4611686018427387904) (h2 : 1 ≤ l) (h3 : 0 ≤ n) (h4 : n ≤ 1048576) :
    (∃ t, firstR p a l n = (t, true) ∧ IsFirst p a l n t) ∨ (firstR p a l n = (0, false) ∧ ∀ e, a ≤ e → e < NEVER → ¬ Holds p l n e) := by
  obtain ⟨hc, _, _⟩ := (rightP_iff p).1 hp
  have hg : goodF p a l n = true := by unfold goodF NEVER MAXF; rw [hp, decide_eq_true ⟨h0, h1, h2, h3, h4⟩]; rfl
  have htry : ∀ t, 0 ≤ t → (tryF p a l n t = true ↔ a ≤ t ∧ t < NEVER ∧ Holds p l n t) := by
    intro t ht
    unfold tryF
    rw [decide_eq_true_eq]
    constructor
    · rintro ⟨g1, g2, g3⟩
      have hpl := plus_lt g2 h2
      rw [leastR_is hc ht, plusZ_is ht (by unfold NEVER at g2; omega) h2] at g3
      exact ⟨g1, g2, (holds_least (least_is hc ht hpl.1)).1 g3⟩
    · rintro ⟨g1, g2, g3⟩
      have hpl := plus_lt g2 h2
      rw [leastR_is hc ht, plusZ_is ht (by unfold NEVER at g2; omega) h2]
      exact ⟨g1, g2, (holds_least (least_is hc ht hpl.1)).2 g3⟩
  have hmem : ∀ s, (s = a ∨ s ∈ p.map (·.1)) ↔ s ∈ cands p a := fun s => by unfold cands; rw [List.mem_cons]
  have hpos : ∀ s ∈ cands p a, 0 ≤ s := by
    intro s hs
    rcases (hmem s).2 hs with rfl | hs
    · exact h0
    · obtain ⟨x, hx, rfl⟩ := List.mem_map.1 hs
      exact (canon_times hc x hx).1
  -- the tried times rise from 'a' on as far as they count
  have hsort : ∀ (r : Prof) (x f : Int), Tail x f r → ∀ (pre : List Int), (∀ y ∈ pre, y ≤ x ∨ y = a) → ∀ t, (r.map (·.1)).find? (tryF p a l n) = some t → ∀ s ∈ r.map (·.1), s < t → tryF p a l n s = false := by
    intro r
    induction r with
    | nil => intro x f _ _ _ t h; cases h
    | cons y r ih =>
      intro x f ht pre hpre t h s hs hst
      simp only [List.map_cons] at h hs
      cases hy : tryF p a l n y.1 with
      | true =>
        rw [List.find?_cons_of_pos hy] at h
        injection h with h
        subst h
        rcases List.mem_cons.1 hs with rfl | hs
        · omega
        · obtain ⟨z, hz, rfl⟩ := List.mem_map.1 hs
          have := (ht.2.2.2.times z hz).1
          omega
      | false =>
        rw [List.find?_cons_of_neg (by rw [hy]; simp)] at h
        rcases List.mem_cons.1 hs with rfl | hs
        · exact hy
        · exact ih y.1 y.2 ht.2.2.2 [] (by simp) t h s hs hst
  unfold firstR
  rw [if_neg (by rw [hg]; simp)]
  cases hf : (cands p a).find? (tryF p a l n) with
  | none =>
    refine .inr ⟨rfl, first_none hc h0 h2 fun s hs hs1 hs2 hh => ?_⟩
    have hs' := (hmem s).1 hs
    have := List.find?_eq_none.1 hf s hs'
    exact this ((htry s (hpos s hs')).2 ⟨hs1, hs2, hh⟩)
  | some t =>
    have ht := List.find?_some hf
    have htm := List.mem_of_find?_eq_some hf
    obtain ⟨g1, g2, g3⟩ := (htry t (hpos t htm)).1 ht
    refine .inl ⟨t, rfl, first_of hc h0 h2 g1 g2 g3 fun s hs hs1 hs2 hh => ?_⟩
    have hs' := (hmem s).1 hs
    have hst : tryF p a l n s = true := (htry s (hpos s hs')).2 ⟨hs1, by omega, hh⟩
    unfold cands at hf hs'
    cases ha : tryF p a l n a with
    | true =>
      rw [List.find?_cons_of_pos ha] at hf
      injection hf with hf
      omega
    | false =>
      rw [List.find?_cons_of_neg (by rw [ha]; simp)] at hf
      rcases List.mem_cons.1 hs' with rfl | hs'
      · rw [ha] at hst; cases hst
      · obtain ⟨f, r, rfl, htl⟩ := canon_form hc
        simp only [List.map_cons] at hf hs'
        cases hz : tryF ((0, f) :: r) a l n 0 with
        | true =>
          rw [List.find?_cons_of_pos hz] at hf
          injection hf with hf
          omega
        | false =>
          rw [List.find?_cons_of_neg (by rw [hz]; simp)] at hf
          rcases List.mem_cons.1 hs' with rfl | hs'
          · rw [hz] at hst; cases hst
          · have := hsort r 0 f htl [] (by simp) t hf s hs' hs2
            rw [this] at hst; cases hst

end Go.Proofs.Ytkhnlbkghjjdnaa
