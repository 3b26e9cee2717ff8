/- Plain facts for the statements of layer 3: taken and given back; taken in two parts, and for two spans side by side. No program's text is walked here. -/
import Derived.Test.YtkhnlbkghjjdnaaStepFace
namespace Go.Proofs.Ytkhnlbkghjjdnaa

theorem len_sub : ∀ (L l : List Int), l.Nodup → (∀ x ∈ l, x ∈ L) → l.length ≤ L.length
  | [], l, _, h => by
    cases l with
    | nil => exact Nat.le_refl _
    | cons x l => exact absurd (h x List.mem_cons_self) (by simp)
  | y :: L, l, hn, h => by
    have h1 := len_sub L (l.erase y) (hn.erase y) (fun x hx => by
      have hx' := (List.Nodup.mem_erase_iff hn).1 hx
      rcases List.mem_cons.1 (h x hx'.2) with he | he
      · exact absurd he hx'.1
      · exact he)
    have h2 : l.length ≤ (l.erase y).length + 1 := by
      rw [List.length_erase]
      split <;> omega
    simp only [List.length_cons]
    omega
theorem addIf_mem {l : List Int} {x y : Int} (h : y ∈ addIf l x) : y ∈ l ∨ y = x := by
  unfold addIf at h
  split at h
  · rcases List.mem_append.1 h with h | h
    · exact .inl h
    · exact .inr (List.mem_singleton.1 h)
  · exact .inl h
theorem times_mem {p : List (Int × Int)} {a b y : Int} (h : y ∈ timesL p a b) : y = a ∨ y = b ∨ y ∈ p.map (·.1) := by
  have hf : ∀ (r : List (Int × Int)) (l : List Int), ∀ y ∈ r.foldl (stepTimes a b) l, y ∈ l ∨ y = a ∨ y = b ∨ y ∈ r.map (·.1) := by
    intro r
    induction r with
    | nil => intro l y hy; exact .inl hy
    | cons s r ih =>
      intro l y hy
      simp only [List.foldl_cons] at hy
      rcases ih _ y hy with h1 | h1 | h1 | h1
      · unfold stepTimes at h1
        simp only at h1
        rcases addIf_mem h1 with h2 | h2
        · split at h2
          · rcases addIf_mem h2 with h3 | h3
            · split at h3
              · rcases addIf_mem h3 with h4 | h4
                · exact .inl h4
                · exact .inr (.inl h4)
              · exact .inl h3
            · exact .inr (.inr (.inl h3))
          · split at h2
            · rcases addIf_mem h2 with h4 | h4
              · exact .inl h4
              · exact .inr (.inl h4)
            · exact .inl h2
        · exact .inr (.inr (.inr (by simp [h2])))
      · exact .inr (.inl h1)
      · exact .inr (.inr (.inl h1))
      · exact .inr (.inr (.inr (List.mem_cons_of_mem _ h1)))
  unfold timesL at h
  rcases addIf_mem h with h | h
  · rcases addIf_mem h with h | h
    · rcases hf p [] y h with h | h | h | h
      · cases h
      · exact .inl h
      · exact .inr (.inl h)
      · exact .inr (.inr h)
    · exact .inl h
  · exact .inr (.inl h)
theorem put_mem (v : Int → Int) : ∀ (ts : List Int) (out : List (Int × Int)), ∀ s ∈ ts.foldl (putStep v) out, s ∈ out ∨ s.1 ∈ ts
  | [], _, s, h => .inl h
  | t :: ts, out, s, h => by
    simp only [List.foldl_cons] at h
    rcases put_mem v ts _ s h with h1 | h1
    · unfold putStep at h1
      split at h1
      · rcases List.mem_append.1 h1 with h2 | h2
        · exact .inl h2
        · rw [List.mem_singleton.1 h2]; exact .inr List.mem_cons_self
      · exact .inl h1
    · exact .inr (List.mem_cons_of_mem _ h1)
theorem tail_pair : ∀ {p : List (Int × Int)} {a f : Int}, Tail a f p → (p.map (·.1)).Nodup ∧ ∀ y ∈ p.map (·.1), a < y
  | [], _, _, _ => ⟨List.nodup_nil, fun y h => by cases h⟩
  | (b, g) :: r, a, f, h => by
    obtain ⟨h1, h2⟩ := tail_pair h.2.2.2
    refine ⟨List.nodup_cons.2 ⟨fun hb => ?_, h1⟩, fun y hy => ?_⟩
    · have h3 : b < b := h2 _ hb; omega
    · rcases List.mem_cons.1 hy with rfl | hy
      · exact h.1
      · have := h2 y hy; have := h.1; omega
theorem changeL_len {p : List (Int × Int)} (hp : Canon p) {a b : Int} (d : Int) (h0 : 0 ≤ a) (hab : a < b) (hb : b ≤ NEVER) : (changeL p a b d).length ≤ p.length + 2 := by
  obtain ⟨hc, _⟩ := change_is hp d h0 hab hb
  have hnd : ((changeL p a b d).map (·.1)).Nodup := by
    obtain ⟨f, r, e, ht⟩ := canon_form hc
    rw [e]
    obtain ⟨h1, h2⟩ := tail_pair ht
    exact List.nodup_cons.2 ⟨fun hb => by have h3 : (0 : Int) < 0 := h2 _ hb; omega, h1⟩
  have := len_sub (a :: b :: p.map (·.1)) _ hnd (fun x hx => by
    obtain ⟨s, hs, rfl⟩ := List.mem_map.1 hx
    unfold changeL at hs
    rcases put_mem _ _ _ s hs with h | h
    · cases h
    · rcases times_mem h with h | h | h
      · simp [h]
      · simp [h]
      · exact List.mem_cons_of_mem _ (List.mem_cons_of_mem _ h))
  simpa using this

/-- Take, of a profile that is not near the limit of steps -/
theorem take_ok {p : List (Int × Int)} {a b n : Int} (hl : p.length ≤ 1000) (hm : mayP p a b = true) (h0 : 0 ≤ n) (h1 : n ≤ MAXF) (h2 : n ≤ leastL p a b) : takeR p a b n = (changeL p a b (-n), 0) := by
  obtain ⟨⟨hc, _, _⟩, g0, g1, g2⟩ := (mayP_iff p a b).1 hm
  have := changeL_len hc (-n) g0 g1 g2
  unfold takeR
  rw [if_neg (by rw [hm, decide_eq_true ⟨h0, h1⟩]; simp), if_neg (by omega), if_neg (by omega)]
theorem take_no {p : List (Int × Int)} {a b n : Int} (h : ¬ (mayP p a b = true ∧ 0 ≤ n ∧ n ≤ MAXF ∧ n ≤ leastL p a b)) : ∃ er, takeR p a b n = (p, er) ∧ er ≠ 0 := by
  unfold takeR
  by_cases hq : (mayP p a b && decide (0 ≤ n ∧ n ≤ MAXF)) = false
  · exact ⟨1, by rw [if_pos hq], by omega⟩
  · rw [if_neg hq]
    have hq' : mayP p a b = true ∧ 0 ≤ n ∧ n ≤ MAXF := by
      have : (mayP p a b && decide (0 ≤ n ∧ n ≤ MAXF)) = true := by simpa using hq
      rw [Bool.and_eq_true, decide_eq_true_eq] at this
      exact this
    by_cases h2 : leastL p a b < n
    · exact ⟨5, by rw [if_pos h2], by omega⟩
    · exact absurd ⟨hq'.1, hq'.2.1, hq'.2.2, by omega⟩ h
theorem right_of {p : List (Int × Int)} (h1 : Canon p) (h2 : Bounded p) (h3 : p.length ≤ 1024) : rightP p = true := (rightP_iff p).2 ⟨h1, h2, h3⟩
/-- the profile behind a Take is one -/
theorem taken_right {p : List (Int × Int)} {a b n : Int} (hl : p.length ≤ 1000) (hm : mayP p a b = true) (h0 : 0 ≤ n) (h2 : n ≤ leastL p a b) :
    rightP (changeL p a b (-n)) = true ∧ (changeL p a b (-n)).length ≤ p.length + 2 ∧ (∀ t, 0 ≤ t → t ≤ NEVER → atP (changeL p a b (-n)) t = atP p t - (if a ≤ t ∧ t < b then n else 0)) := by
  obtain ⟨⟨hc, hbd, _⟩, g0, g1, g2⟩ := (mayP_iff p a b).1 hm
  obtain ⟨k1, k2⟩ := change_is hc (-n) g0 g1 g2
  have k3 : ∀ t, 0 ≤ t → t ≤ NEVER → atP (changeL p a b (-n)) t = atP p t - (if a ≤ t ∧ t < b then n else 0) := fun t h1 h2 => by
    rw [k2 t h1 h2]; unfold changeV; split <;> omega
  have k4 := changeL_len hc (-n) g0 g1 g2
  refine ⟨right_of k1 ((bounded_iff k1).2 fun t t0 t1 => ?_) (by omega), k4, k3⟩
  rw [k3 t t0 t1]
  have hr := atP_bounds hbd t
  have hle := (least_is hc g0 g1).1 t
  split
  · rename_i hs
    have := hle hs.1 hs.2
    omega
  · omega
/-- given back, all is as it was -/
theorem give_back {p : List (Int × Int)} {a b n : Int} (hl : p.length ≤ 1000) (hm : mayP p a b = true) (h0 : 0 ≤ n) (h1 : n ≤ MAXF) (h2 : n ≤ leastL p a b) : giveR (changeL p a b (-n)) a b n = (p, 0) := by
  obtain ⟨⟨hc, hbd, hlen⟩, g0, g1, g2⟩ := (mayP_iff p a b).1 hm
  obtain ⟨k1, k2, k3⟩ := taken_right hl hm h0 h2
  obtain ⟨j1, j2, j3⟩ := (rightP_iff _).1 k1
  have hmq : mayP (changeL p a b (-n)) a b = true := (mayP_iff _ _ _).2 ⟨⟨j1, j2, j3⟩, g0, g1, g2⟩
  have hback : changeL (changeL p a b (-n)) a b n = p := by
    have := change_back hc (d := -n) g0 g1 g2
    rwa [Int.neg_neg] at this
  unfold giveR
  rw [if_neg (by rw [hmq, decide_eq_true ⟨h0, h1⟩]; simp), hback, if_neg, if_neg (by omega)]
  obtain ⟨t, t1, t2, t3⟩ := (most_is j1 g0 g1).2
  have := k3 t (by omega) (by omega)
  rw [if_pos ⟨t1, t2⟩] at this
  have := (atP_bounds hbd t).2
  omega
/-- what is free at a time behind a Take -/
theorem taken_at {p : List (Int × Int)} {a b n t : Int} (hl : p.length ≤ 1000) (hm : mayP p a b = true) (h0 : 0 ≤ n) (h2 : n ≤ leastL p a b) :
    atR (changeL p a b (-n)) t = if timeB t = true ∧ withinB t (plusZ t 1) a b = true ∧ t < 4611686018427387904 then atR p t - n else atR p t := by
  obtain ⟨⟨hc, hbd, hlen⟩, g0, g1, g2⟩ := (mayP_iff p a b).1 hm
  obtain ⟨k1, k2, k3⟩ := taken_right hl hm h0 h2
  have hp : rightP p = true := right_of hc hbd hlen
  unfold NEVER at g2
  by_cases ht : 0 ≤ t ∧ t ≤ 4611686018427387904
  · have hk := k3 t ht.1 ht.2
    have e1 : atR (changeL p a b (-n)) t = atP (changeL p a b (-n)) t := by unfold atR NEVER; rw [if_pos ⟨k1, ht.1, ht.2⟩]
    have e2 : atR p t = atP p t := by unfold atR NEVER; rw [if_pos ⟨hp, ht.1, ht.2⟩]
    rw [e1, e2, hk]
    have e3 : timeB t = true := decide_eq_true ht
    by_cases hN : t < 4611686018427387904
    · have e4 : plusZ t 1 = t + 1 := by unfold plusZ nearZ; repeat' split; all_goals omega
      rw [e3, e4]
      by_cases hs : a ≤ t ∧ t < b
      · rw [if_pos hs, if_pos ⟨rfl, decide_eq_true (.inr ⟨hs.1, by omega⟩), hN⟩]
      · rw [if_neg hs, if_neg (by
          rintro ⟨-, h, -⟩
          unfold withinB at h
          rw [decide_eq_true_eq] at h
          omega)]
        omega
    · rw [if_neg (show ¬ (a ≤ t ∧ t < b) by omega), if_neg (fun h => hN h.2.2)]; omega
  · have e1 : ∀ q, atR q t = 0 := fun q => by unfold atR NEVER; rw [if_neg (fun h => ht h.2)]
    rw [e1, e1, if_neg]
    unfold timeB
    rw [decide_eq_true_eq]
    exact fun h => ht h.1

/-- the least behind a Take of the same span -/
theorem least_taken {p : List (Int × Int)} {a b n : Int} (hl : p.length ≤ 1000) (hm : mayP p a b = true) (h0 : 0 ≤ n) (h2 : n ≤ leastL p a b) : leastL (changeL p a b (-n)) a b = leastL p a b - n := by
  obtain ⟨⟨hc, hbd, hlen⟩, g0, g1, g2⟩ := (mayP_iff p a b).1 hm
  obtain ⟨k1, k2, k3⟩ := taken_right hl hm h0 h2
  obtain ⟨j1, _, _⟩ := (rightP_iff _).1 k1
  refine IsLeast.unique (least_is j1 g0 g1) ?_
  obtain ⟨m1, t, t1, t2, t3⟩ := least_is hc g0 g1
  have hk : ∀ u, a ≤ u → u < b → atP (changeL p a b (-n)) u = atP p u - n := fun u u1 u2 => by
    have := k3 u (by omega) (by omega)
    rwa [if_pos ⟨u1, u2⟩] at this
  refine ⟨fun u u1 u2 => ?_, t, t1, t2, ?_⟩
  · rw [hk u u1 u2]; have := m1 u u1 u2; omega
  · rw [hk t t1 t2, t3]
theorem may_taken {p : List (Int × Int)} {a b n c d : Int} (hl : p.length ≤ 1000) (hm : mayP p a b = true) (h0 : 0 ≤ n) (h2 : n ≤ leastL p a b) : mayP (changeL p a b (-n)) c d = decide (0 ≤ c ∧ c < d ∧ d ≤ NEVER) := by
  unfold mayP
  rw [(taken_right hl hm h0 h2).1, Bool.true_and]
/-- the least of the span beside -/
theorem least_beside {p : List (Int × Int)} {a b c n : Int} (hl : p.length ≤ 1000) (hm : mayP p a b = true) (h0 : 0 ≤ n) (h2 : n ≤ leastL p a b) (hbc : b < c) (hc : c ≤ NEVER) : leastL (changeL p a b (-n)) b c = leastL p b c := by
  obtain ⟨⟨hcan, hbd, hlen⟩, g0, g1, g2⟩ := (mayP_iff p a b).1 hm
  obtain ⟨k1, k2, k3⟩ := taken_right hl hm h0 h2
  obtain ⟨j1, _, _⟩ := (rightP_iff _).1 k1
  refine IsLeast.unique (least_is j1 (by omega) hbc) ?_
  obtain ⟨m1, t, t1, t2, t3⟩ := least_is hcan (a := b) (b := c) (by omega) hbc
  have hk : ∀ u, b ≤ u → u < c → atP (changeL p a b (-n)) u = atP p u := fun u u1 u2 => by
    have := k3 u (by omega) (by omega)
    rw [if_neg (by omega)] at this
    omega
  refine ⟨fun u u1 u2 => ?_, t, t1, t2, ?_⟩
  · rw [hk u u1 u2]; exact m1 u u1 u2
  · rw [hk t t1 t2, t3]
theorem least_split {p : List (Int × Int)} (hp : Canon p) {a b c n : Int} (h0 : 0 ≤ a) (hab : a < b) (hbc : b < c) : (n ≤ leastL p a c ↔ n ≤ leastL p a b ∧ n ≤ leastL p b c) := by
  obtain ⟨m1, t, t1, t2, t3⟩ := least_is hp (a := a) (b := c) h0 (by omega)
  obtain ⟨m2, u, u1, u2, u3⟩ := least_is hp (a := a) (b := b) h0 hab
  obtain ⟨m3, v, v1, v2, v3⟩ := least_is hp (a := b) (b := c) (by omega) hbc
  constructor
  · intro h
    have := m1 u u1 (by omega)
    have := m1 v (by omega) v2
    omega
  · rintro ⟨h1, h2⟩
    by_cases htb : t < b
    · have := m2 t t1 htb; omega
    · have := m3 t (by omega) t2; omega

end Go.Proofs.Ytkhnlbkghjjdnaa
