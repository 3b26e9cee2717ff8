/- Plain facts on profiles (layer 3): a profile is determined by what is free at each time; the least in a span; what is changed in a span; the first time. No program. -/
import Derived.Lib.Hide
namespace Go.Proofs.Ytkhnlbkghjjdnaa

abbrev Prof := List (Int × Int)
def NEVER : Int := 4611686018427387904
def MAXF : Int := 1048576

/-- behind a step at a with f free -/
def Tail : Int → Int → Prof → Prop
  | _, _, [] => True
  | a, f, (b, g) :: r => a < b ∧ b ≤ NEVER ∧ g ≠ f ∧ Tail b g r
/-- what is free at t, where f is free ahead of the list -/
def atT : Int → Prof → Int → Int
  | f, [], _ => f
  | f, (b, g) :: r, t => if b ≤ t then atT g r t else f
def Canon : Prof → Prop
  | [] => False
  | (a, f) :: r => a = 0 ∧ Tail 0 f r
theorem canon_form : ∀ {p : Prof}, Canon p → ∃ f r, p = (0, f) :: r ∧ Tail 0 f r
  | [], h => h.elim
  | (a, f) :: r, h => ⟨f, r, by rw [h.1], h.2⟩
def atP (p : Prof) (t : Int) : Int := atT 0 p t
def Bounded (p : Prof) : Prop := ∀ s ∈ p, 0 ≤ s.2 ∧ s.2 ≤ MAXF

theorem Tail.times : ∀ {p : Prof} {a f : Int}, Tail a f p → ∀ s ∈ p, a < s.1 ∧ s.1 ≤ NEVER
  | [], _, _, _, s, hs => by cases hs
  | (b, g) :: r, a, f, h, s, hs => by
    obtain ⟨h1, h2, _, h4⟩ := h
    rcases List.mem_cons.1 hs with rfl | hs
    · exact ⟨h1, h2⟩
    · have := h4.times s hs
      exact ⟨by omega, this.2⟩
theorem atT_below : ∀ {p : Prof} {a f : Int}, Tail a f p → ∀ {t : Int}, t ≤ a → atT f p t = f
  | [], _, _, _, _, _ => rfl
  | (b, g) :: r, a, f, h, t, ht => by
    have := h.1
    unfold atT
    rw [if_neg (by omega)]
theorem tail_ext : ∀ {p q : Prof} {a f : Int}, Tail a f p → Tail a f q → (∀ t, a < t → t ≤ NEVER → atT f p t = atT f q t) → p = q
  | [], [], _, _, _, _, _ => rfl
  | [], (b, g) :: r, a, f, _, h, he => by
    have h1 := he b h.1 h.2.1
    unfold atT at h1
    rw [if_pos (Int.le_refl _), atT_below h.2.2.2 (Int.le_refl _)] at h1
    exact absurd h1.symm h.2.2.1
  | (b, g) :: r, [], a, f, h, _, he => by
    have h1 := he b h.1 h.2.1
    unfold atT at h1
    rw [if_pos (Int.le_refl _), atT_below h.2.2.2 (Int.le_refl _)] at h1
    exact absurd h1 h.2.2.1
  | (b, g) :: r, (b', g') :: r', a, f, h, h', he => by
    have hb : b = b' := by
      rcases Int.lt_trichotomy b b' with hlt | heq | hgt
      · have h1 := he b h.1 h.2.1
        unfold atT at h1
        rw [if_pos (Int.le_refl _), atT_below h.2.2.2 (Int.le_refl _), if_neg (by omega)] at h1
        exact absurd h1 h.2.2.1
      · exact heq
      · have h1 := he b' h'.1 h'.2.1
        unfold atT at h1
        rw [if_pos (Int.le_refl _), atT_below h'.2.2.2 (Int.le_refl _), if_neg (by omega)] at h1
        exact absurd h1.symm h'.2.2.1
    subst hb
    have hg : g = g' := by
      have h1 := he b h.1 h.2.1
      unfold atT at h1
      rw [if_pos (Int.le_refl _), if_pos (Int.le_refl _), atT_below h.2.2.2 (Int.le_refl _), atT_below h'.2.2.2 (Int.le_refl _)] at h1
      exact h1
    subst hg
    have := tail_ext h.2.2.2 h'.2.2.2 fun t h1 h2 => by
      have h3 := he t (by have := h.1; omega) h2
      unfold atT at h3
      rwa [if_pos (by omega), if_pos (by omega)] at h3
    rw [this]

/-- A PROFILE IS DETERMINED BY WHAT IS FREE AT EACH TIME. -/
theorem prof_ext {p q : Prof} (hp : Canon p) (hq : Canon q) (he : ∀ t, 0 ≤ t → t ≤ NEVER → atP p t = atP q t) : p = q := by
  obtain ⟨f, r, rfl, h⟩ := canon_form hp
  obtain ⟨g, r', rfl, h'⟩ := canon_form hq
  · clear hp hq
    have h0 := he 0 (Int.le_refl _) (by unfold NEVER; omega)
    unfold atP atT at h0
    rw [if_pos (Int.le_refl _), if_pos (Int.le_refl _), atT_below h (Int.le_refl _), atT_below h' (Int.le_refl _)] at h0
    subst h0
    have := tail_ext h h' fun t h1 h2 => by
      have h3 := he t (by omega) h2
      unfold atP atT at h3
      rwa [if_pos (by omega), if_pos (by omega)] at h3
    rw [this]

theorem atT_mem : ∀ (p : Prof) (f t : Int), atT f p t = f ∨ ∃ s ∈ p, atT f p t = s.2 ∧ s.1 ≤ t
  | [], f, _ => .inl rfl
  | (b, g) :: r, f, t => by
    unfold atT
    split
    · rcases atT_mem r g t with h | ⟨s, hs, h1, h2⟩
      · exact .inr ⟨(b, g), List.mem_cons_self, h, by assumption⟩
      · exact .inr ⟨s, List.mem_cons_of_mem _ hs, h1, h2⟩
    · exact .inl rfl
theorem atP_bounds {p : Prof} (hb : Bounded p) (t : Int) : 0 ≤ atP p t ∧ atP p t ≤ MAXF := by
  rcases atT_mem p 0 t with h | ⟨s, hs, h, _⟩
  · unfold atP; rw [h]; unfold MAXF; omega
  · unfold atP; rw [h]; exact hb s hs

/-- the loop that goes through all steps tells the same -/
def foldAt (p : Prof) (t : Int) (n : Int) : Int := p.foldl (fun n s => if s.1 ≤ t then s.2 else n) n
theorem foldAt_none : ∀ (p : Prof) (t n : Int), (∀ s ∈ p, t < s.1) → foldAt p t n = n
  | [], _, _, _ => rfl
  | s :: r, t, n, h => by
    unfold foldAt
    simp only [List.foldl_cons]
    rw [if_neg (by have := h s List.mem_cons_self; omega)]
    exact foldAt_none r t n fun u hu => h u (List.mem_cons_of_mem _ hu)
theorem foldAt_tail : ∀ {p : Prof} {a f : Int} (t : Int), Tail a f p → foldAt p t f = atT f p t
  | [], _, _, _, _ => rfl
  | (b, g) :: r, a, f, t, h => by
    unfold foldAt atT
    simp only [List.foldl_cons]
    split
    · exact foldAt_tail t h.2.2.2
    · refine foldAt_none r t f fun s hs => ?_
      have := h.2.2.2.times s hs
      omega
theorem foldAt_canon {p : Prof} (hp : Canon p) {t : Int} (ht : 0 ≤ t) : foldAt p t 0 = atP p t := by
  obtain ⟨f, r, rfl, h⟩ := canon_form hp
  · clear hp
    unfold foldAt atP atT
    simp only [List.foldl_cons]
    rw [if_pos ht, if_pos ht]
    exact foldAt_tail t h

/-- constant between the steps -/
theorem atT_const : ∀ {p : Prof} {a f t u : Int}, Tail a f p → t ≤ u → (∀ s ∈ p, s.1 ≤ t ∨ u < s.1) → atT f p t = atT f p u
  | [], _, _, _, _, _, _, _ => rfl
  | (b, g) :: r, a, f, t, u, h, htu, hs => by
    unfold atT
    rcases hs (b, g) List.mem_cons_self with h1 | h1
    · simp only at h1
      rw [if_pos h1, if_pos (by omega)]
      exact atT_const h.2.2.2 htu fun s hs' => hs s (List.mem_cons_of_mem _ hs')
    · simp only at h1
      rw [if_neg (by omega), if_neg (by omega)]
theorem atP_const {p : Prof} (hp : Canon p) {t u : Int} (htu : t ≤ u) (h0 : 0 ≤ t) (hs : ∀ s ∈ p, s.1 ≤ t ∨ u < s.1) : atP p t = atP p u := by
  obtain ⟨f, r, rfl, h⟩ := canon_form hp
  · clear hp
    unfold atP atT
    rw [if_pos h0, if_pos (by omega)]
    exact atT_const h htu fun s hs' => hs s (List.mem_cons_of_mem _ hs')
theorem canon_times {p : Prof} (hp : Canon p) : ∀ s ∈ p, 0 ≤ s.1 ∧ s.1 ≤ NEVER := by
  obtain ⟨f, r, rfl, h⟩ := canon_form hp
  · clear hp
    intro s hs
    rcases List.mem_cons.1 hs with rfl | hs
    · exact ⟨Int.le_refl _, by show (0 : Int) ≤ NEVER; unfold NEVER; omega⟩
    · have := h.times s hs
      exact ⟨by omega, this.2⟩
theorem at_step : ∀ {p : Prof} {a f : Int}, Tail a f p → ∀ s ∈ p, atT f p s.1 = s.2
  | (b, g) :: r, a, f, h, s, hs => by
    unfold atT
    rcases List.mem_cons.1 hs with rfl | hs
    · rw [if_pos (Int.le_refl _), atT_below h.2.2.2 (Int.le_refl _)]
    · have := h.2.2.2.times s hs
      rw [if_pos (by omega)]
      exact at_step h.2.2.2 s hs
theorem atP_step {p : Prof} (hp : Canon p) : ∀ s ∈ p, atP p s.1 = s.2 := by
  obtain ⟨f, r, rfl, h⟩ := canon_form hp
  · clear hp
    intro s hs
    unfold atP atT
    rcases List.mem_cons.1 hs with rfl | hs
    · rw [if_pos (Int.le_refl _), atT_below h (Int.le_refl _)]
    · have := h.times s hs
      rw [if_pos (by omega)]
      exact at_step h s hs

/-- the last of the times at which something changes, not later than u -/
theorem last_at : ∀ (l : List Int) (c u : Int), c ≤ u → ∃ s, (s = c ∨ s ∈ l) ∧ c ≤ s ∧ s ≤ u ∧ ∀ x ∈ l, x ≤ s ∨ u < x
  | [], c, u, h => ⟨c, .inl rfl, Int.le_refl _, h, fun x hx => by cases hx⟩
  | y :: l, c, u, h => by
    by_cases hy : c ≤ y ∧ y ≤ u
    · obtain ⟨s, h1, h2, h3, h4⟩ := last_at l y u hy.2
      refine ⟨s, .inr ?_, by omega, h3, fun x hx => ?_⟩
      · rcases h1 with rfl | h1
        · exact List.mem_cons_self
        · exact List.mem_cons_of_mem _ h1
      · rcases List.mem_cons.1 hx with rfl | hx
        · exact .inl h2
        · exact h4 x hx
    · obtain ⟨s, h1, h2, h3, h4⟩ := last_at l c u h
      refine ⟨s, h1.imp id (List.mem_cons_of_mem _), h2, h3, fun x hx => ?_⟩
      rcases List.mem_cons.1 hx with rfl | hx
      · omega
      · exact h4 x hx

/-! ### The least, and the most, in a span -/
def IsLeast (p : Prof) (a b m : Int) : Prop := (∀ t, a ≤ t → t < b → m ≤ atP p t) ∧ ∃ t, a ≤ t ∧ t < b ∧ atP p t = m
def IsMost (p : Prof) (a b m : Int) : Prop := (∀ t, a ≤ t → t < b → atP p t ≤ m) ∧ ∃ t, a ≤ t ∧ t < b ∧ atP p t = m
theorem IsLeast.unique {p : Prof} {a b m n : Int} (h : IsLeast p a b m) (h' : IsLeast p a b n) : m = n := by
  obtain ⟨t, h1, h2, h3⟩ := h.2
  obtain ⟨t', h1', h2', h3'⟩ := h'.2
  have := h.1 t' h1' h2'
  have := h'.1 t h1 h2
  omega
theorem IsMost.unique {p : Prof} {a b m n : Int} (h : IsMost p a b m) (h' : IsMost p a b n) : m = n := by
  obtain ⟨t, h1, h2, h3⟩ := h.2
  obtain ⟨t', h1', h2', h3'⟩ := h'.2
  have := h.1 t' h1' h2'
  have := h'.1 t h1 h2
  omega
/-- the reference's loops -/
def leastL (p : Prof) (a b : Int) : Int := p.foldl (fun n s => if a < s.1 ∧ s.1 < b ∧ s.2 < n then s.2 else n) (atP p a)
def mostL (p : Prof) (a b : Int) : Int := p.foldl (fun n s => if a < s.1 ∧ s.1 < b ∧ n < s.2 then s.2 else n) (atP p a)
theorem least_fold (a b : Int) : ∀ (l : Prof) (n : Int), (l.foldl (fun n s => if a < s.1 ∧ s.1 < b ∧ s.2 < n then s.2 else n) n ≤ n) ∧
    (∀ s ∈ l, a < s.1 → s.1 < b → l.foldl (fun n s => if a < s.1 ∧ s.1 < b ∧ s.2 < n then s.2 else n) n ≤ s.2) ∧
    (l.foldl (fun n s => if a < s.1 ∧ s.1 < b ∧ s.2 < n then s.2 else n) n = n ∨ ∃ s ∈ l, a < s.1 ∧ s.1 < b ∧ l.foldl (fun n s => if a < s.1 ∧ s.1 < b ∧ s.2 < n then s.2 else n) n = s.2)
  | [], n => ⟨Int.le_refl _, (fun s hs => by cases hs), .inl rfl⟩
  | x :: l, n => by
    simp only [List.foldl_cons]
    by_cases hx : a < x.1 ∧ x.1 < b ∧ x.2 < n
    · rw [if_pos hx]
      obtain ⟨h1, h2, h3⟩ := least_fold a b l x.2
      refine ⟨by omega, fun s hs hs1 hs2 => ?_, ?_⟩
      · rcases List.mem_cons.1 hs with rfl | hs
        · exact h1
        · exact h2 s hs hs1 hs2
      · rcases h3 with h3 | ⟨s, hs, h⟩
        · exact .inr ⟨x, List.mem_cons_self, hx.1, hx.2.1, h3⟩
        · exact .inr ⟨s, List.mem_cons_of_mem _ hs, h⟩
    · rw [if_neg hx]
      obtain ⟨h1, h2, h3⟩ := least_fold a b l n
      refine ⟨h1, fun s hs hs1 hs2 => ?_, ?_⟩
      · rcases List.mem_cons.1 hs with rfl | hs
        · omega
        · exact h2 s hs hs1 hs2
      · rcases h3 with h3 | ⟨s, hs, h⟩
        · exact .inl h3
        · exact .inr ⟨s, List.mem_cons_of_mem _ hs, h⟩
theorem most_fold (a b : Int) : ∀ (l : Prof) (n : Int), (n ≤ l.foldl (fun n s => if a < s.1 ∧ s.1 < b ∧ n < s.2 then s.2 else n) n) ∧
    (∀ s ∈ l, a < s.1 → s.1 < b → s.2 ≤ l.foldl (fun n s => if a < s.1 ∧ s.1 < b ∧ n < s.2 then s.2 else n) n) ∧
    (l.foldl (fun n s => if a < s.1 ∧ s.1 < b ∧ n < s.2 then s.2 else n) n = n ∨ ∃ s ∈ l, a < s.1 ∧ s.1 < b ∧ l.foldl (fun n s => if a < s.1 ∧ s.1 < b ∧ n < s.2 then s.2 else n) n = s.2)
  | [], n => ⟨Int.le_refl _, (fun s hs => by cases hs), .inl rfl⟩
  | x :: l, n => by
    simp only [List.foldl_cons]
    by_cases hx : a < x.1 ∧ x.1 < b ∧ n < x.2
    · rw [if_pos hx]
      obtain ⟨h1, h2, h3⟩ := most_fold a b l x.2
      refine ⟨by omega, fun s hs hs1 hs2 => ?_, ?_⟩
      · rcases List.mem_cons.1 hs with rfl | hs
        · exact h1
        · exact h2 s hs hs1 hs2
      · rcases h3 with h3 | ⟨s, hs, h⟩
        · exact .inr ⟨x, List.mem_cons_self, hx.1, hx.2.1, h3⟩
        · exact .inr ⟨s, List.mem_cons_of_mem _ hs, h⟩
    · rw [if_neg hx]
      obtain ⟨h1, h2, h3⟩ := most_fold a b l n
      refine ⟨h1, fun s hs hs1 hs2 => ?_, ?_⟩
      · rcases List.mem_cons.1 hs with rfl | hs
        · omega
        · exact h2 s hs hs1 hs2
      · rcases h3 with h3 | ⟨s, hs, h⟩
        · exact .inl h3
        · exact .inr ⟨s, List.mem_cons_of_mem _ hs, h⟩
/-- at a time of a span: as at its beginning, or as at a step within -/
theorem at_span {p : Prof} (hp : Canon p) {a t : Int} (h0 : 0 ≤ a) (ht : a ≤ t) : atP p t = atP p a ∨ ∃ s ∈ p, a < s.1 ∧ s.1 ≤ t ∧ atP p t = s.2 := by
  obtain ⟨s, h1, h2, h3, h4⟩ := last_at (p.map (·.1)) a t ht
  have e : atP p s = atP p t := atP_const hp h3 (by omega) fun x hx => h4 x.1 (List.mem_map.2 ⟨x, hx, rfl⟩)
  rcases h1 with rfl | h1
  · exact .inl e.symm
  · obtain ⟨x, hx, rfl⟩ := List.mem_map.1 h1
    by_cases hxa : x.1 = a
    · exact .inl (by rw [← e, hxa])
    · exact .inr ⟨x, hx, by omega, h3, by rw [← e, atP_step hp x hx]⟩
theorem least_is {p : Prof} (hp : Canon p) {a b : Int} (h0 : 0 ≤ a) (hab : a < b) : IsLeast p a b (leastL p a b) := by
  obtain ⟨h1, h2, h3⟩ := least_fold a b p (atP p a)
  refine ⟨fun t ht htb => ?_, ?_⟩
  · rcases at_span hp h0 ht with h | ⟨s, hs, hs1, hs2, h⟩
    · rw [h]; exact h1
    · rw [h]; exact h2 s hs hs1 (by omega)
  · rcases h3 with h3 | ⟨s, hs, hs1, hs2, h3⟩
    · exact ⟨a, Int.le_refl _, hab, h3.symm⟩
    · exact ⟨s.1, by omega, hs2, by rw [atP_step hp s hs]; exact h3.symm⟩
theorem most_is {p : Prof} (hp : Canon p) {a b : Int} (h0 : 0 ≤ a) (hab : a < b) : IsMost p a b (mostL p a b) := by
  obtain ⟨h1, h2, h3⟩ := most_fold a b p (atP p a)
  refine ⟨fun t ht htb => ?_, ?_⟩
  · rcases at_span hp h0 ht with h | ⟨s, hs, hs1, hs2, h⟩
    · rw [h]; exact h1
    · rw [h]; exact h2 s hs hs1 (by omega)
  · rcases h3 with h3 | ⟨s, hs, hs1, hs2, h3⟩
    · exact ⟨a, Int.le_refl _, hab, h3.symm⟩
    · exact ⟨s.1, by omega, hs2, by rw [atP_step hp s hs]; exact h3.symm⟩

end Go.Proofs.Ytkhnlbkghjjdnaa
