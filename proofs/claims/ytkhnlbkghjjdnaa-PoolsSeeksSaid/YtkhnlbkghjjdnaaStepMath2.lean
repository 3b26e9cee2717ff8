/- Plain facts on profiles (layer 3): the profile of a changed function; the times at which something changes; the first time. No program. -/
import Derived.Test.YtkhnlbkghjjdnaaStepMath
namespace Go.Proofs.Ytkhnlbkghjjdnaa

/-! ### The profile of a function that is constant between given times -/
def Rise : Int → List Int → Prop
  | _, [] => True
  | a, b :: r => a < b ∧ b ≤ NEVER ∧ Rise b r
def squeeze (v : Int → Int) : Int → List Int → Prof
  | _, [] => []
  | f, b :: r => if v b = f then squeeze v f r else (b, v b) :: squeeze v (v b) r
def profOf (v : Int → Int) (ts : List Int) : Prof := (0, v 0) :: squeeze v (v 0) ts

theorem Tail.weaken : ∀ {p : Prof} {a b f : Int}, Tail b f p → a ≤ b → Tail a f p
  | [], _, _, _, _, _ => trivial
  | (c, g) :: r, a, b, f, h, hab => ⟨by have := h.1; omega, h.2.1, h.2.2.1, h.2.2.2⟩
theorem squeeze_tail (v : Int → Int) : ∀ {ts : List Int} {a : Int} (f : Int), Rise a ts → Tail a f (squeeze v f ts)
  | [], _, _, _ => trivial
  | b :: r, a, f, h => by
    unfold squeeze
    split
    · exact (squeeze_tail v f h.2.2).weaken (by have := h.1; omega)
    · rename_i hne
      exact ⟨h.1, h.2.1, hne, squeeze_tail v (v b) h.2.2⟩
theorem Rise.above : ∀ {ts : List Int} {a : Int}, Rise a ts → ∀ x ∈ ts, a < x ∧ x ≤ NEVER
  | b :: r, a, h, x, hx => by
    rcases List.mem_cons.1 hx with rfl | hx
    · exact ⟨h.1, h.2.1⟩
    · have h1 := h.2.2.above x hx
      have := h.1
      exact ⟨by omega, h1.2⟩
theorem squeeze_at {v : Int → Int} : ∀ {ts : List Int} {a : Int}, Rise a ts → (∀ t u, a ≤ t → t ≤ u → u ≤ NEVER → (∀ x ∈ ts, x ≤ t ∨ u < x) → v t = v u) → ∀ t, a ≤ t → t ≤ NEVER → atT (v a) (squeeze v (v a) ts) t = v t
  | [], a, _, hc, t, h1, h2 => hc a t (Int.le_refl _) h1 h2 (fun x hx => by cases hx)
  | b :: r, a, h, hc, t, h1, h2 => by
    have hbr : ∀ x ∈ r, b < x := fun x hx => (h.2.2.above x hx).1
    have ih := squeeze_at h.2.2 (v := v) (fun t u h1 h2 h3 hx => hc t u (by have := h.1; omega) h2 h3 fun x hx' => by
      rcases List.mem_cons.1 hx' with rfl | hx'
      · exact .inl h1
      · exact hx x hx')
    unfold squeeze
    split
    · rename_i he
      by_cases hbt : b ≤ t
      · have := ih t hbt h2
        rwa [he] at this
      · rw [atT_below (squeeze_tail v (v a) h.2.2) (by omega)]
        exact hc a t (Int.le_refl _) h1 h2 fun x hx => by
          rcases List.mem_cons.1 hx with rfl | hx
          · exact .inr (by omega)
          · have := hbr x hx; exact .inr (by omega)
    · unfold atT
      split
      · rename_i hbt
        exact ih t hbt h2
      · exact hc a t (Int.le_refl _) h1 h2 fun x hx => by
          rcases List.mem_cons.1 hx with rfl | hx
          · exact .inr (by omega)
          · have := hbr x hx; exact .inr (by omega)
theorem profOf_canon (v : Int → Int) {ts : List Int} (h : Rise 0 ts) : Canon (profOf v ts) := ⟨rfl, squeeze_tail v (v 0) h⟩
theorem profOf_at {v : Int → Int} {ts : List Int} (h : Rise 0 ts) (hc : ∀ t u, 0 ≤ t → t ≤ u → u ≤ NEVER → (∀ x ∈ ts, x ≤ t ∨ u < x) → v t = v u) : ∀ t, 0 ≤ t → t ≤ NEVER → atP (profOf v ts) t = v t := by
  intro t h1 h2
  unfold atP profOf atT
  rw [if_pos h1]
  exact squeeze_at h hc t h1 h2
theorem squeeze_length (v : Int → Int) : ∀ (ts : List Int) (f : Int), (squeeze v f ts).length ≤ ts.length
  | [], _ => Nat.le_refl _
  | b :: r, f => by
    unfold squeeze
    split
    · have := squeeze_length v r f; simp; omega
    · have := squeeze_length v r (v b); simp; omega
theorem squeeze_mem (v : Int → Int) : ∀ (ts : List Int) (f : Int), ∀ s ∈ squeeze v f ts, s.1 ∈ ts ∧ s.2 = v s.1
  | [], _, s, hs => by cases hs
  | b :: r, f, s, hs => by
    unfold squeeze at hs
    split at hs
    · have := squeeze_mem v r f s hs
      exact ⟨List.mem_cons_of_mem _ this.1, this.2⟩
    · rcases List.mem_cons.1 hs with rfl | hs
      · exact ⟨List.mem_cons_self, rfl⟩
      · have := squeeze_mem v r (v b) s hs
        exact ⟨List.mem_cons_of_mem _ this.1, this.2⟩

/-- the loop that puts a step where what is free turns -/
def putStep (v : Int → Int) (out : Prof) (t : Int) : Prof := if out = [] ∨ (out.getD (out.length - 1) (0, 0)).2 ≠ v t then out ++ [(t, v t)] else out
theorem put_squeeze (v : Int → Int) : ∀ (ts : List Int) (out : Prof) (x f : Int), ts.foldl (putStep v) (out ++ [(x, f)]) = out ++ [(x, f)] ++ squeeze v f ts
  | [], out, x, f => by simp [squeeze]
  | b :: r, out, x, f => by
    have hl : ((out ++ [(x, f)]).getD ((out ++ [(x, f)]).length - 1) (0, 0)).2 = f := by simp [List.getD]
    simp only [List.foldl_cons]
    by_cases h : v b = f
    · have e : putStep v (out ++ [(x, f)]) b = out ++ [(x, f)] := by unfold putStep; rw [if_neg (by rw [hl]; simp [h])]
      rw [e, put_squeeze v r out x f]
      simp only [squeeze, h, if_true]
    · have e : putStep v (out ++ [(x, f)]) b = out ++ [(x, f)] ++ [(b, v b)] := by unfold putStep; rw [if_pos (by rw [hl]; exact .inr (Ne.symm h))]
      rw [e, put_squeeze v r (out ++ [(x, f)]) b (v b)]
      simp [squeeze, h]
theorem put_prof (v : Int → Int) (ts : List Int) : (0 :: ts).foldl (putStep v) [] = profOf v ts := by
  simp only [List.foldl_cons]
  have h : putStep v [] 0 = [] ++ [((0 : Int), v 0)] := by unfold putStep; simp
  rw [h, put_squeeze]
  rfl

/-! ### The times at which something may change -/
def addIf (l : List Int) (x : Int) : List Int := if l = [] ∨ l.getD (l.length - 1) 0 < x then l ++ [x] else l
theorem last_max {l : List Int} (h : l.Pairwise (· < ·)) (hne : l ≠ []) : l.getD (l.length - 1) 0 ∈ l ∧ ∀ y ∈ l, y ≤ l.getD (l.length - 1) 0 := by
  have hpos : 0 < l.length := List.length_pos_iff.2 hne
  have e : l.getD (l.length - 1) 0 = l[l.length - 1] := by rw [List.getD, List.getElem?_eq_getElem (by omega)]; rfl
  refine ⟨by rw [e]; exact List.getElem_mem _, fun y hy => ?_⟩
  obtain ⟨i, hi, rfl⟩ := List.getElem_of_mem hy
  rw [e]
  by_cases hil : i = l.length - 1
  · subst hil; exact Int.le_refl _
  · have := List.pairwise_iff_getElem.1 h i (l.length - 1) hi (by omega) (by omega)
    omega
theorem addIf_yes {l : List Int} {x : Int} (h : ∀ y ∈ l, y < x) (hs : l.Pairwise (· < ·)) : addIf l x = l ++ [x] := by
  unfold addIf
  by_cases hne : l = []
  · rw [if_pos (.inl hne)]
  · rw [if_pos (.inr (h _ (last_max hs hne).1))]
theorem addIf_no {l : List Int} {x y : Int} (hy : y ∈ l) (hxy : x ≤ y) (hs : l.Pairwise (· < ·)) : addIf l x = l := by
  have hne : l ≠ [] := List.ne_nil_of_mem hy
  unfold addIf
  rw [if_neg]
  rintro (h | h)
  · exact hne h
  · have := (last_max hs hne).2 y hy
    omega
theorem pair_snoc {l : List Int} {x : Int} (hs : l.Pairwise (· < ·)) (h : ∀ y ∈ l, y < x) : (l ++ [x]).Pairwise (· < ·) := by
  rw [List.pairwise_append]
  exact ⟨hs, List.pairwise_singleton _ _, fun a ha b hb => by rw [List.mem_singleton.1 hb]; exact h a ha⟩
/-- what the list of times is, behind the steps up to the time x -/
structure TimesOk (pre : Prof) (from_ to_ x : Int) (l : List Int) : Prop where
  pair : l.Pairwise (· < ·)
  zero : (0 : Int) ∈ l
  low : ∀ y ∈ l, 0 ≤ y ∧ y ≤ x
  top : x ∈ l
  steps : ∀ s ∈ pre, s.1 ∈ l
  one : from_ ≤ x → from_ ∈ l
  two : to_ ≤ x → to_ ∈ l
def stepTimes (from_ to_ : Int) (l : List Int) (s : Int × Int) : List Int :=
  let l1 := if from_ < s.1 then addIf l from_ else l
  let l2 := if to_ < s.1 then addIf l1 to_ else l1
  addIf l2 s.1
def timesL (p : Prof) (from_ to_ : Int) : List Int := addIf (addIf (p.foldl (stepTimes from_ to_) []) from_) to_

/-- one time more: whatever stands between the last step's and the next one's -/
theorem times_mid {pre : Prof} {a b x : Int} {l : List Int} (h : TimesOk pre a b x l) (hab : a < b) (h0 : 0 ≤ a) (y : Int) (P Q : Prop) [Decidable P] [Decidable Q] (hP : P ↔ a < y) (hQ : Q ↔ b < y) :
    let l1 := if P then addIf l a else l
    let l2 := if Q then addIf l1 b else l1
    l2.Pairwise (· < ·) ∧ (∀ z ∈ l, z ∈ l2) ∧ (∀ z ∈ l2, 0 ≤ z ∧ (z ≤ x ∨ z < y)) ∧ (a < y → a ∈ l2) ∧ (b < y → b ∈ l2) := by
  intro l1 l2
  have H1 : l1.Pairwise (· < ·) ∧ (∀ z ∈ l, z ∈ l1) ∧ (∀ z ∈ l1, 0 ≤ z ∧ (z ≤ x ∨ z = a ∧ a < y)) ∧ (a < y → a ∈ l1) := by
    show (if P then addIf l a else l).Pairwise (· < ·) ∧ (∀ z ∈ l, z ∈ (if P then addIf l a else l)) ∧ (∀ z ∈ (if P then addIf l a else l), 0 ≤ z ∧ (z ≤ x ∨ z = a ∧ a < y)) ∧ (a < y → a ∈ (if P then addIf l a else l))
    by_cases hp : P
    · rw [if_pos hp]
      by_cases hax : a ≤ x
      · rw [addIf_no h.top hax h.pair]
        exact ⟨h.pair, fun z hz => hz, fun z hz => ⟨(h.low z hz).1, .inl (h.low z hz).2⟩, fun _ => h.one hax⟩
      · have hlt : ∀ z ∈ l, z < a := fun z hz => by have := (h.low z hz).2; omega
        rw [addIf_yes hlt h.pair]
        refine ⟨pair_snoc h.pair hlt, fun z hz => by simp [hz], fun z hz => ?_, fun _ => by simp⟩
        rcases List.mem_append.1 hz with hz | hz
        · exact ⟨(h.low z hz).1, .inl (h.low z hz).2⟩
        · rw [List.mem_singleton.1 hz]
          exact ⟨h0, .inr ⟨rfl, hP.1 hp⟩⟩
    · rw [if_neg hp]
      exact ⟨h.pair, fun z hz => hz, fun z hz => ⟨(h.low z hz).1, .inl (h.low z hz).2⟩, fun hay => absurd (hP.2 hay) hp⟩
  obtain ⟨g1, g2, g3, g4⟩ := H1
  show (if Q then addIf l1 b else l1).Pairwise (· < ·) ∧ (∀ z ∈ l, z ∈ (if Q then addIf l1 b else l1)) ∧ (∀ z ∈ (if Q then addIf l1 b else l1), 0 ≤ z ∧ (z ≤ x ∨ z < y)) ∧ (a < y → a ∈ (if Q then addIf l1 b else l1)) ∧ (b < y → b ∈ (if Q then addIf l1 b else l1))
  have g3' : ∀ z ∈ l1, 0 ≤ z ∧ (z ≤ x ∨ z < y) := fun z hz => ⟨(g3 z hz).1, (g3 z hz).2.imp id fun h => by rw [h.1]; exact h.2⟩
  by_cases hq : Q
  · rw [if_pos hq]
    by_cases hbx : b ≤ x
    · rw [addIf_no (g2 _ h.top) hbx g1]
      exact ⟨g1, g2, g3', g4, fun _ => g2 _ (h.two hbx)⟩
    · have hlt : ∀ z ∈ l1, z < b := fun z hz => by
        rcases (g3 z hz).2 with h | ⟨h, _⟩ <;> omega
      rw [addIf_yes hlt g1]
      refine ⟨pair_snoc g1 hlt, fun z hz => by simp [g2 z hz], fun z hz => ?_, fun hay => by simp [g4 hay], fun _ => by simp⟩
      rcases List.mem_append.1 hz with hz | hz
      · exact g3' z hz
      · rw [List.mem_singleton.1 hz]
        exact ⟨by omega, .inr (hQ.1 hq)⟩
  · rw [if_neg hq]
    exact ⟨g1, g2, g3', g4, fun hby => absurd (hQ.2 hby) hq⟩
theorem times_step {pre : Prof} {a b x : Int} {l : List Int} (h : TimesOk pre a b x l) (hab : a < b) (h0 : 0 ≤ a) (s : Int × Int) (hxs : x < s.1) : TimesOk (pre ++ [s]) a b s.1 (stepTimes a b l s) := by
  have H := times_mid h hab h0 s.1 (a < s.1) (b < s.1) Iff.rfl Iff.rfl
  simp only at H
  unfold stepTimes
  simp only
  generalize (if b < s.1 then addIf (if a < s.1 then addIf l a else l) b else if a < s.1 then addIf l a else l) = l2 at H ⊢
  obtain ⟨g1, g2, g3, g4, g5⟩ := H
  have hlt : ∀ z ∈ l2, z < s.1 := fun z hz => by rcases (g3 z hz).2 with h | h <;> omega
  have h00 := h.low x h.top
  rw [addIf_yes hlt g1]
  refine ⟨pair_snoc g1 hlt, by simp [g2 0 h.zero], fun z hz => ?_, by simp, fun u hu => ?_, fun ha => ?_, fun hb => ?_⟩
  · rcases List.mem_append.1 hz with hz | hz
    · have := hlt z hz; exact ⟨(g3 z hz).1, by omega⟩
    · rw [List.mem_singleton.1 hz]; exact ⟨by omega, Int.le_refl _⟩
  · rcases List.mem_append.1 hu with hu | hu
    · simp [g2 _ (h.steps u hu)]
    · rw [List.mem_singleton.1 hu]; simp
  · by_cases e : a = s.1
    · simp [e]
    · simp [g4 (by omega)]
  · by_cases e : b = s.1
    · simp [e]
    · simp [g5 (by omega)]
theorem times_fold {a b : Int} (hab : a < b) (h0 : 0 ≤ a) : ∀ {r pre : Prof} {x f : Int} {l : List Int}, TimesOk pre a b x l → Tail x f r → ∃ x', TimesOk (pre ++ r) a b x' (r.foldl (stepTimes a b) l) ∧ (x' = x ∨ x' ≤ NEVER)
  | [], pre, x, f, l, h, _ => ⟨x, by simpa using h, .inl rfl⟩
  | s :: r, pre, x, f, l, h, ht => by
    obtain ⟨x', h1, h2⟩ := times_fold hab h0 (times_step h hab h0 s ht.1) ht.2.2.2
    refine ⟨x', by simpa using h1, .inr ?_⟩
    rcases h2 with rfl | h2
    · exact ht.2.1
    · exact h2
theorem rise_of : ∀ {l : List Int} {a : Int}, l.Pairwise (· < ·) → (∀ y ∈ l, a < y ∧ y ≤ NEVER) → Rise a l
  | [], _, _, _ => trivial
  | b :: _, _, h, hy => ⟨(hy b List.mem_cons_self).1, (hy b List.mem_cons_self).2, rise_of (List.pairwise_cons.1 h).2 fun y hy' => ⟨(List.pairwise_cons.1 h).1 y hy', (hy y (List.mem_cons_of_mem _ hy')).2⟩⟩
theorem times_ok {p : Prof} (hp : Canon p) {a b : Int} (h0 : 0 ≤ a) (hab : a < b) (hb : b ≤ NEVER) :
    ∃ ts, timesL p a b = 0 :: ts ∧ Rise 0 ts ∧ (∀ s ∈ p, s.1 = 0 ∨ s.1 ∈ ts) ∧ (a = 0 ∨ a ∈ ts) ∧ b ∈ ts := by
  obtain ⟨f, r, rfl, ht⟩ := canon_form hp
  have hI : TimesOk [((0 : Int), f)] a b 0 [0] := ⟨List.pairwise_singleton _ _, by simp, by simp, by simp, by simp, fun h => by simp; omega, fun h => by simp; omega⟩
  have e0 : stepTimes a b [] (0, f) = [0] := by
    unfold stepTimes
    simp only
    rw [if_neg (by omega), if_neg (by omega)]
    rfl
  obtain ⟨x, hx, hxN⟩ := times_fold hab h0 hI ht
  have hxN' : x ≤ NEVER := by
    rcases hxN with rfl | h
    · unfold NEVER; omega
    · exact h
  have H := times_mid hx hab h0 (NEVER + 1) True True (by simp; omega) (by simp; omega)
  simp only [if_true] at H
  unfold timesL
  simp only [List.foldl_cons, e0]
  generalize addIf (addIf (r.foldl (stepTimes a b) [0]) a) b = l at H ⊢
  obtain ⟨g1, g2, g3, g4, g5⟩ := H
  have hz : (0 : Int) ∈ l := g2 _ hx.zero
  cases l with
  | nil => cases hz
  | cons y ts =>
    have hpw := List.pairwise_cons.1 g1
    have hy : y = 0 := by
      rcases List.mem_cons.1 hz with h | h
      · exact h.symm
      · have := hpw.1 0 h
        have := (g3 y List.mem_cons_self).1
        omega
    subst hy
    refine ⟨ts, rfl, rise_of hpw.2 fun z hz' => ⟨hpw.1 z hz', ?_⟩, fun s hs => ?_, ?_, ?_⟩
    · rcases (g3 z (List.mem_cons_of_mem _ hz')).2 with h | h <;> omega
    · exact List.mem_cons.1 (g2 _ (hx.steps s (by simpa using hs)))
    · exact List.mem_cons.1 (g4 (by omega))
    · rcases List.mem_cons.1 (g5 (by omega)) with h | h
      · omega
      · exact h

/-! ### What is changed in a span -/
def changeV (p : Prof) (a b d : Int) (t : Int) : Int := atP p t + (if a ≤ t ∧ t < b then d else 0)
def changeL (p : Prof) (a b d : Int) : Prof := (timesL p a b).foldl (putStep (changeV p a b d)) []
theorem change_const {p : Prof} (hp : Canon p) {a b d : Int} {ts : List Int} (h3 : ∀ s ∈ p, s.1 = 0 ∨ s.1 ∈ ts) (h4 : a = 0 ∨ a ∈ ts) (h5 : b ∈ ts) :
    ∀ t u, 0 ≤ t → t ≤ u → u ≤ NEVER → (∀ x ∈ ts, x ≤ t ∨ u < x) → changeV p a b d t = changeV p a b d u := by
  intro t u h1 h2 _ hx
  unfold changeV
  rw [atP_const hp h2 h1 fun s hs => by
    rcases h3 s hs with h | h
    · exact .inl (by omega)
    · exact hx _ h]
  congr 1
  have ha : a ≤ t ∨ u < a := by
    rcases h4 with h | h
    · exact .inl (by omega)
    · exact hx _ h
  have hb := hx b h5
  by_cases hc : a ≤ t ∧ t < b
  · rw [if_pos hc, if_pos (by omega)]
  · rw [if_neg hc, if_neg (by omega)]
theorem change_is {p : Prof} (hp : Canon p) {a b : Int} (d : Int) (h0 : 0 ≤ a) (hab : a < b) (hb : b ≤ NEVER) :
    Canon (changeL p a b d) ∧ ∀ t, 0 ≤ t → t ≤ NEVER → atP (changeL p a b d) t = changeV p a b d t := by
  obtain ⟨ts, h1, h2, h3, h4, h5⟩ := times_ok hp h0 hab hb
  unfold changeL
  rw [h1, put_prof]
  exact ⟨profOf_canon _ h2, profOf_at h2 (change_const hp h3 h4 h5)⟩
theorem change_unique {p q : Prof} (hp : Canon p) (hq : Canon q) {a b d : Int} (h0 : 0 ≤ a) (hab : a < b) (hb : b ≤ NEVER) (h : ∀ t, 0 ≤ t → t ≤ NEVER → atP q t = changeV p a b d t) : q = changeL p a b d := by
  obtain ⟨h1, h2⟩ := change_is hp d h0 hab hb
  exact prof_ext hq h1 fun t ht1 ht2 => by rw [h t ht1 ht2, h2 t ht1 ht2]
/-- what is free at a step is what is free at its time -/
theorem bounded_iff {p : Prof} (hp : Canon p) : Bounded p ↔ ∀ t, 0 ≤ t → t ≤ NEVER → 0 ≤ atP p t ∧ atP p t ≤ MAXF := by
  constructor
  · intro h t _ _
    exact atP_bounds h t
  · intro h s hs
    have := canon_times hp s hs
    have h2 := h s.1 this.1 this.2
    rwa [atP_step hp s hs] at h2
theorem change_back {p : Prof} (hp : Canon p) {a b d : Int} (h0 : 0 ≤ a) (hab : a < b) (hb : b ≤ NEVER) : changeL (changeL p a b d) a b (-d) = p := by
  obtain ⟨h1, h2⟩ := change_is hp d h0 hab hb
  refine (change_unique h1 hp h0 hab hb fun t ht1 ht2 => ?_).symm
  unfold changeV
  rw [h2 t ht1 ht2]
  unfold changeV
  split <;> omega
theorem change_twice {p : Prof} (hp : Canon p) {a b d e : Int} (h0 : 0 ≤ a) (hab : a < b) (hb : b ≤ NEVER) : changeL (changeL p a b d) a b e = changeL p a b (d + e) := by
  obtain ⟨h1, h2⟩ := change_is hp d h0 hab hb
  obtain ⟨h3, h4⟩ := change_is h1 e h0 hab hb
  refine change_unique hp h3 h0 hab hb fun t ht1 ht2 => ?_
  rw [h4 t ht1 ht2]
  unfold changeV
  rw [h2 t ht1 ht2]
  unfold changeV
  split <;> omega
theorem change_beside {p : Prof} (hp : Canon p) {a b c d : Int} (h0 : 0 ≤ a) (hab : a < b) (hbc : b < c) (hc : c ≤ NEVER) : changeL (changeL p a b d) b c d = changeL p a c d := by
  obtain ⟨h1, h2⟩ := change_is hp d h0 hab (by omega)
  obtain ⟨h3, h4⟩ := change_is h1 d (a := b) (b := c) (by omega) hbc hc
  refine change_unique hp h3 h0 (by omega) hc fun t ht1 ht2 => ?_
  rw [h4 t ht1 ht2]
  unfold changeV
  rw [h2 t ht1 ht2]
  unfold changeV
  repeat' split
  all_goals omega

/-! ### The first time -/
def plus (t long : Int) : Int := if t + long ≤ NEVER then t + long else NEVER
def Holds (p : Prof) (long n t : Int) : Prop := ∀ u, t ≤ u → u < plus t long → n ≤ atP p u
def IsFirst (p : Prof) (from_ long n t : Int) : Prop := from_ ≤ t ∧ t < NEVER ∧ Holds p long n t ∧ ∀ e, from_ ≤ e → e < t → ¬ Holds p long n e
theorem IsFirst.unique {p : Prof} {a l n t u : Int} (h : IsFirst p a l n t) (h' : IsFirst p a l n u) : t = u := by
  rcases Int.lt_trichotomy t u with hlt | heq | hgt
  · exact absurd h.2.2.1 (h'.2.2.2 t h.1 hlt)
  · exact heq
  · exact absurd h'.2.2.1 (h.2.2.2 u h'.1 hgt)
theorem holds_least {p : Prof} {long n t m : Int} (h : IsLeast p t (plus t long) m) : n ≤ m ↔ Holds p long n t := by
  obtain ⟨h1, u, h2, h3, h4⟩ := h
  constructor
  · intro hn v hv1 hv2
    have := h1 v hv1 hv2
    omega
  · intro hh
    have := hh u h2 h3
    omega
theorem plus_lt {t long : Int} (ht : t < NEVER) (hl : 1 ≤ long) : t < plus t long ∧ plus t long ≤ NEVER := by
  unfold plus
  split <;> omega
/-- a time at which it holds, and neither the beginning nor a step's: at an earlier one of these it holds too -/
theorem holds_earlier {p : Prof} (hp : Canon p) {from_ long n e : Int} (h0 : 0 ≤ from_) (hl : 1 ≤ long) (hfe : from_ ≤ e) (heN : e < NEVER) (h : Holds p long n e) :
    ∃ s, (s = from_ ∨ s ∈ p.map (·.1)) ∧ from_ ≤ s ∧ s ≤ e ∧ Holds p long n s := by
  obtain ⟨s, h1, h2, h3, h4⟩ := last_at (p.map (·.1)) from_ e hfe
  refine ⟨s, h1, h2, h3, fun u hu1 hu2 => ?_⟩
  by_cases hue : u < e
  · have e1 : atP p s = atP p u := atP_const hp hu1 (by omega) fun x hx => by
      rcases h4 x.1 (List.mem_map.2 ⟨x, hx, rfl⟩) with h | h
      · exact .inl h
      · exact .inr (by omega)
    have e2 : atP p s = atP p e := atP_const hp h3 (by omega) fun x hx => h4 x.1 (List.mem_map.2 ⟨x, hx, rfl⟩)
    rw [← e1, e2]
    exact h e (Int.le_refl _) (plus_lt heN hl).1
  · refine h u (by omega) ?_
    unfold plus at hu2 ⊢
    split at hu2 <;> split <;> omega
/-- the least of the tried times at which it holds is the first of all -/
theorem first_of {p : Prof} (hp : Canon p) {from_ long n t : Int} (h0 : 0 ≤ from_) (hl : 1 ≤ long) (h1 : from_ ≤ t) (h2 : t < NEVER) (h3 : Holds p long n t)
    (h4 : ∀ s, (s = from_ ∨ s ∈ p.map (·.1)) → from_ ≤ s → s < t → ¬ Holds p long n s) : IsFirst p from_ long n t :=
  ⟨h1, h2, h3, fun e he1 he2 hh => by
    obtain ⟨s, g1, g2, g3, g4⟩ := holds_earlier hp h0 hl he1 (by omega) hh
    exact h4 s g1 g2 (by omega) g4⟩
theorem first_none {p : Prof} (hp : Canon p) {from_ long n : Int} (h0 : 0 ≤ from_) (hl : 1 ≤ long)
    (h4 : ∀ s, (s = from_ ∨ s ∈ p.map (·.1)) → from_ ≤ s → s < NEVER → ¬ Holds p long n s) : ∀ e, from_ ≤ e → e < NEVER → ¬ Holds p long n e := fun e he1 he2 hh => by
  obtain ⟨s, g1, g2, g3, g4⟩ := holds_earlier hp h0 hl he1 he2 hh
  exact h4 s g1 g2 (by omega) g4

end Go.Proofs.Ytkhnlbkghjjdnaa
