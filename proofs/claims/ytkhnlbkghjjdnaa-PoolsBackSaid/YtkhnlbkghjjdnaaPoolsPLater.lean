/- The turns in which First of layer 4 (pools) asks the kinds: what a time tells that no kind has moved, or one has. No program's text is walked here. -/
import Derived.Test.YtkhnlbkghjjdnaaPoolsPBase
namespace Go.Proofs.Ytkhnlbkghjjdnaa
open Go.RowKit

/-- the time behind the first k kinds of a turn -/
structure LatK (ls : List (List (Int × Int))) (l : Int) (ns : List Int) (a : Int) (k : Nat) (t : Int) : Prop where
  start : k = 0 → t = a
  le : a ≤ t
  none : ∀ e, a ≤ e → e < t → ¬ HoldsPP ls l ns e
  all : t = a → ∀ j, j < k → Holds (ls.getD j []) l (ns.getD j 0) a
  good : 0 < k → 0 ≤ a ∧ t < NEVER ∧ 1 ≤ l
  asks : ∀ j, j < k → 0 ≤ ns.getD j 0 ∧ ns.getD j 0 ≤ MAXF
/-- what a whole turn tells -/
def LaterIs (ls : List (List (Int × Int))) (l : Int) (ns : List Int) (a : Int) (t : Int) (ok : Bool) : Prop :=
  (ok = true ∧ goodPP ls a l ns = true ∧ a ≤ t ∧ t < NEVER ∧ (∀ e, a ≤ e → e < t → ¬ HoldsPP ls l ns e) ∧ (t = a → HoldsPP ls l ns a)) ∨
  (t = 0 ∧ ok = false ∧ (goodPP ls a l ns = true → ∀ e, a ≤ e → e < NEVER → ¬ HoldsPP ls l ns e))

section
variable {ls : List (List (Int × Int))} {l a t u : Int} {ns : List Int} {k : Nat}
theorem latK_zero : LatK ls l ns a 0 a := ⟨fun _ => rfl, Int.le_refl _, fun e h1 h2 => by omega, fun _ j hj => absurd hj (by omega), fun h => absurd h (by omega), fun j hj => absurd hj (by omega)⟩
theorem firstR_yes {p : List (Int × Int)} {n : Int} (h : firstR p t l n = (u, true)) : (0 ≤ t ∧ t < NEVER) ∧ 1 ≤ l ∧ (0 ≤ n ∧ n ≤ MAXF) ∧ IsFirst p t l n u := by
  by_cases hg : rightP p = true ∧ 0 ≤ t ∧ t < 4611686018427387904 ∧ 1 ≤ l ∧ 0 ≤ n ∧ n ≤ 1048576
  · obtain ⟨g1, g2, g3, g4, g5, g6⟩ := hg
    rcases firstR_is g1 g2 g3 g4 g5 g6 with ⟨s, hs, hf⟩ | ⟨hs, _⟩
    · rw [hs] at h
      injection h with h1 h2
      subst h1
      exact ⟨⟨g2, g3⟩, g4, ⟨g5, g6⟩, hf⟩
    · rw [hs] at h
      injection h with h1 h2
      cases h2
  · rw [firstR_bad hg] at h
    injection h with h1 h2
    cases h2
theorem latK_yes (h : LatK ls l ns a k t) (hk : k < ls.length) (hf : firstR (ls.getD k []) t l (ns.getD k 0) = (u, true)) : LatK ls l ns a (k + 1) u := by
  obtain ⟨g1, g2, g3, f1, f2, f3, f4⟩ := firstR_yes hf
  refine ⟨fun h' => by omega, by have := h.le; omega, fun e he1 he2 hh => ?_, fun hu j hj => ?_, fun _ => ⟨?_, f2, g2⟩, fun j hj => ?_⟩
  · rcases Int.lt_or_le e t with ht | ht
    · exact h.none e he1 ht hh
    · exact f4 e ht he2 (hh k hk)
  · have hta : t = a := by have := h.le; omega
    rcases Nat.lt_or_ge j k with hjk | hjk
    · exact h.all hta j hjk
    · obtain rfl : j = k := by omega
      rw [← hu]; exact f3
  · rcases Nat.eq_zero_or_pos k with h0 | h0
    · have := h.start h0; omega
    · exact (h.good h0).1
  · rcases Nat.lt_or_ge j k with hjk | hjk
    · exact h.asks j hjk
    · obtain rfl : j = k := by omega
      exact g3
theorem latK_no (h : LatK ls l ns a k t) (hk : k < ls.length) (hf : firstR (ls.getD k []) t l (ns.getD k 0) = (u, false)) : LaterIs ls l ns a 0 false := by
  refine .inr ⟨rfl, rfl, fun hg e he1 he2 hh => ?_⟩
  unfold goodPP at hg
  rw [Bool.and_eq_true, decide_eq_true_eq] at hg
  obtain ⟨hr, hlen, h0, h1, hl, hns⟩ := hg
  have hrk : rightP (ls.getD k []) = true := by
    unfold rightPP at hr
    rw [decide_eq_true_eq] at hr
    exact hr.2.2 k hk
  have htN : t < NEVER := by
    rcases Nat.eq_zero_or_pos k with h0 | h0
    · have := h.start h0; omega
    · exact (h.good h0).2.1
  have hnk := hns k (by omega)
  unfold NEVER at htN
  unfold MAXF at hnk
  rcases Int.lt_or_le e t with ht | ht
  · exact h.none e he1 ht hh
  · rcases firstR_is hrk (by have := h.le; omega) htN hl hnk.1 hnk.2 with ⟨s, hs, _⟩ | ⟨_, hno⟩
    · rw [hs] at hf
      injection hf with h1 h2
      cases h2
    · exact hno e ht he2 (hh k hk)
theorem latK_end (h : LatK ls l ns a ls.length t) (hr : rightPP ls = true) (hlen : ns.length = ls.length) : LaterIs ls l ns a t true := by
  have hpos : 0 < ls.length := by
    have := hr
    unfold rightPP at this
    rw [decide_eq_true_eq] at this
    exact List.length_pos_iff.2 this.1
  obtain ⟨h0, h1, hl⟩ := h.good hpos
  refine .inl ⟨rfl, ?_, h.le, h1, h.none, fun ht j hj => h.all ht j hj⟩
  unfold goodPP
  rw [hr, decide_eq_true ⟨hlen, h0, by have := h.le; omega, hl, fun j hj => h.asks j (by omega)⟩]
  rfl

/-- how far First has come -/
def FirstAt (ls : List (List (Int × Int))) (l : Int) (ns : List Int) (a s : Int) : Prop :=
  a ≤ s ∧ (s = a ∨ (goodPP ls a l ns = true ∧ s < NEVER)) ∧ ∀ e, a ≤ e → e < s → ¬ HoldsPP ls l ns e
theorem firstAt_start : FirstAt ls l ns a a := ⟨Int.le_refl _, .inl rfl, fun e h1 h2 => by omega⟩
theorem good_later {s : Int} (hs : a ≤ s) (hsN : s < NEVER) (h : goodPP ls a l ns = true) : goodPP ls s l ns = true := by
  unfold goodPP at h ⊢
  rw [Bool.and_eq_true, decide_eq_true_eq] at h ⊢
  exact ⟨h.1, h.2.1, by have := h.2.2.1; omega, hsN, h.2.2.2.2⟩
theorem first_none_is {s : Int} (hf : FirstAt ls l ns a s) (h : LaterIs ls l ns s t false) : t = 0 ∧ firstPP ls a l ns = (0, false) := by
  rcases h with ⟨h, _⟩ | ⟨h1, _, h2⟩
  · cases h
  refine ⟨h1, ?_⟩
  cases hg : goodPP ls a l ns with
  | false => exact firstPP_bad hg
  | true =>
    have hsN : s < NEVER := by
      rcases hf.2.1 with h | h
      · have hg' := hg
        unfold goodPP at hg'
        rw [Bool.and_eq_true, decide_eq_true_eq] at hg'
        have := hg'.2.2.2.1
        omega
      · exact h.2
    have hno := h2 (good_later hf.1 hsN hg)
    rcases firstPP_is hg with ⟨u, hu, hF⟩ | ⟨hu, _⟩
    · exfalso
      rcases Int.lt_or_le u s with hus | hus
      · exact hf.2.2 u hF.1 hus hF.2.2.1
      · exact hno u hus hF.2.1 hF.2.2.1
    · exact hu
theorem good_start {s : Int} (hf : FirstAt ls l ns a s) (h : goodPP ls s l ns = true) : goodPP ls a l ns = true := by
  rcases hf.2.1 with e | e
  · rw [← e]; exact h
  · exact e.1
theorem first_is_at {s : Int} (hf : FirstAt ls l ns a s) (h : LaterIs ls l ns s s true) : firstPP ls a l ns = (s, true) := by
  rcases h with ⟨_, hg, _, hsN, _, hh⟩ | ⟨_, h, _⟩
  · have hga := good_start hf hg
    have hI : IsFirstPP ls a l ns s := ⟨hf.1, hsN, hh rfl, hf.2.2⟩
    rcases firstPP_is hga with ⟨u, hu, hF⟩ | ⟨_, hno⟩
    · rw [hu, hF.unique hI]
    · exact absurd (hh rfl) (hno s hf.1 hsN)
  · cases h
theorem first_on {s : Int} (hf : FirstAt ls l ns a s) (h : LaterIs ls l ns s t true) (hne : t ≠ s) : FirstAt ls l ns a t ∧ s < t ∧ t < NEVER := by
  rcases h with ⟨_, hg, h1, h2, h3, _⟩ | ⟨_, h, _⟩
  · refine ⟨⟨by have := hf.1; omega, .inr ⟨good_start hf hg, h2⟩, fun e he1 he2 => ?_⟩, by omega, h2⟩
    rcases Int.lt_or_le e s with hes | hes
    · exact hf.2.2 e he1 hes
    · exact h3 e hes he2
  · cases h
end

end Go.Proofs.Ytkhnlbkghjjdnaa
