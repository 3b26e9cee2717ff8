/- Plain facts for the statements of layer 4. No program's text is walked here. -/
import Derived.Test.YtkhnlbkghjjdnaaPoolsAwake
import Derived.Test.YtkhnlbkghjjdnaaStepLaws
namespace Go.Proofs.Ytkhnlbkghjjdnaa

/-- a kind that Take allows -/
def OkTake (p : List (Int × Int)) (a b k : Int) : Prop := mayP p a b = true ∧ 0 ≤ k ∧ k ≤ MAXF ∧ k ≤ leastL p a b
theorem okTake_of {p : List (Int × Int)} {a b k : Int} (h : (takeR p a b k).2 = 0) : OkTake p a b k := by
  by_cases hh : mayP p a b = true ∧ 0 ≤ k ∧ k ≤ MAXF ∧ k ≤ leastL p a b
  · exact hh
  · obtain ⟨er, e, hne⟩ := take_no hh
    rw [e] at h
    exact absurd h hne
theorem takeR_err {p : List (Int × Int)} {a b k : Int} (hl : p.length ≤ 1000) (h : (takeR p a b k).2 ≠ 0) : (takeR p a b k).1 = p := by
  by_cases hh : mayP p a b = true ∧ 0 ≤ k ∧ k ≤ MAXF ∧ k ≤ leastL p a b
  · rw [take_ok hl hh.1 hh.2.1 hh.2.2.1 hh.2.2.2] at h
    exact absurd rfl h
  · obtain ⟨er, e, _⟩ := take_no hh
    rw [e]

/-- what Change answers where all is allowed, and where it isn't -/
theorem change_cases (give : Bool) (ls : List (List (Int × Int))) (a b : Int) (ns : List Int) :
    (∃ er, er ≠ 0 ∧ changePP give ls a b ns = (ls, er)) ∨
    (rightPP ls = true ∧ ns.length = ls.length ∧ (∀ j, j < ls.length → (opR give (ls.getD j []) a b (ns.getD j 0)).2 = 0) ∧ changePP give ls a b ns = (headPP give ls a b ns ls.length, 0)) := by
  by_cases h1 : rightPP ls = true
  · by_cases h2 : ns.length = ls.length
    · by_cases h3 : ∀ j, j < ls.length → (opR give (ls.getD j []) a b (ns.getD j 0)).2 = 0
      · exact .inr ⟨h1, h2, h3, changePP_ok h1 h2 h3⟩
      · left
        have hex : ∃ k, k < ls.length ∧ (opR give (ls.getD k []) a b (ns.getD k 0)).2 ≠ 0 := by
          refine Classical.byContradiction fun hc => h3 fun j hj => Classical.byContradiction fun he => hc ⟨j, hj, he⟩
        obtain ⟨k, hk, hmin⟩ : ∃ k, (k < ls.length ∧ (opR give (ls.getD k []) a b (ns.getD k 0)).2 ≠ 0) ∧ ∀ j, j < k → ¬ (j < ls.length ∧ (opR give (ls.getD j []) a b (ns.getD j 0)).2 ≠ 0) := by
          obtain ⟨k0, hk0⟩ := hex
          induction k0 using Nat.strongRecOn with
          | ind k0 ih =>
            by_cases hm : ∃ j, j < k0 ∧ j < ls.length ∧ (opR give (ls.getD j []) a b (ns.getD j 0)).2 ≠ 0
            · obtain ⟨j, hj, hj2⟩ := hm
              exact ih j hj hj2
            · exact ⟨k0, hk0, fun j hj hh => hm ⟨j, hj, hh⟩⟩
        exact ⟨_, hk.2, changePP_err h1 h2 hk.1 (fun j hj => Classical.byContradiction fun he => hmin j hj ⟨by omega, he⟩) hk.2⟩
    · exact .inl ⟨1, by omega, changePP_bad (.inr h2)⟩
  · exact .inl ⟨1, by omega, changePP_bad (.inl (by simpa using h1))⟩

theorem headPP_getD (give : Bool) (ls : List (List (Int × Int))) (a b : Int) (ns : List Int) {n j : Nat} (hj : j < n) : (headPP give ls a b ns n).getD j [] = (opR give (ls.getD j []) a b (ns.getD j 0)).1 := by
  unfold headPP
  rw [List.getD, List.getElem?_map, List.getElem?_range hj]
  rfl
theorem list_of_getD {α : Type} {d : α} {xs ys : List α} (hl : xs.length = ys.length) (h : ∀ j, j < xs.length → xs.getD j d = ys.getD j d) : xs = ys := by
  refine List.ext_getElem hl fun i h1 h2 => ?_
  have := h i h1
  rwa [List.getD, List.getD, List.getElem?_eq_getElem h1, List.getElem?_eq_getElem h2] at this
theorem rightPP_at {ls : List (List (Int × Int))} (h : rightPP ls = true) : ls ≠ [] ∧ ls.length ≤ 4 ∧ ∀ j, j < ls.length → rightP (ls.getD j []) = true := by
  unfold rightPP at h
  rwa [decide_eq_true_eq] at h
theorem rightPP_mk {ls : List (List (Int × Int))} (h : ls ≠ [] ∧ ls.length ≤ 4 ∧ ∀ j, j < ls.length → rightP (ls.getD j []) = true) : rightPP ls = true := by
  unfold rightPP
  exact decide_eq_true h
theorem shortB_steps {ls : List (List (Int × Int))} (h : shortB ls = true) : ls.length ≤ 6 ∧ ∀ j, j < ls.length → (ls.getD j []).length ≤ 100 := by
  unfold shortB at h
  rwa [decide_eq_true_eq] at h

/-- all that Take leaves where it is allowed of all kinds -/
structure Taken (ls qs : List (List (Int × Int))) (a b : Int) (ns : List Int) : Prop where
  right : rightPP ls = true
  len : ns.length = ls.length
  many : qs.length = ls.length
  ok : ∀ j, j < ls.length → OkTake (ls.getD j []) a b (ns.getD j 0)
  each : ∀ j, j < ls.length → qs.getD j [] = changeL (ls.getD j []) a b (-ns.getD j 0)
  steps : ∀ j, j < qs.length → (qs.getD j []).length ≤ 1000
  right2 : rightPP qs = true
  back : changePP true qs a b ns = (ls, 0)
theorem taken_of {ls qs : List (List (Int × Int))} {a b : Int} {ns : List Int} (hs : shortB ls = true) (h : changePP false ls a b ns = (qs, 0)) : Taken ls qs a b ns := by
  obtain ⟨_, hst⟩ := shortB_steps hs
  rcases change_cases false ls a b ns with ⟨er, hne, e⟩ | ⟨h1, h2, h3, e⟩
  · rw [e] at h
    injection h with _ h
    exact absurd h hne
  · rw [e] at h
    injection h with h _
    subst h
    have hok : ∀ j, j < ls.length → OkTake (ls.getD j []) a b (ns.getD j 0) := fun j hj => okTake_of (h3 j hj)
    have heach : ∀ j, j < ls.length → (headPP false ls a b ns ls.length).getD j [] = changeL (ls.getD j []) a b (-ns.getD j 0) := by
      intro j hj
      obtain ⟨g1, g2, g3, g4⟩ := hok j hj
      rw [headPP_getD _ _ _ _ _ hj]
      show (takeR _ _ _ _).1 = _
      rw [take_ok (by have := hst j hj; omega) g1 g2 g3 g4]
    have hr2 : rightPP (headPP false ls a b ns ls.length) = true := by
      obtain ⟨r1, r2, r3⟩ := rightPP_at h1
      have hl := headPP_len false ls a b ns ls.length
      refine rightPP_mk ⟨fun h0 => r1 (List.eq_nil_of_length_eq_zero (by rw [← hl, h0]; rfl)), by omega, fun j hj => ?_⟩
      rw [hl] at hj
      rw [heach j hj]
      obtain ⟨g1, g2, g3, g4⟩ := hok j hj
      exact (taken_right (by have := hst j hj; omega) g1 g2 g4).1
    have hl := headPP_len false ls a b ns ls.length
    refine ⟨h1, h2, hl, hok, heach, fun j hj => ?_, hr2, ?_⟩
    · rw [hl] at hj
      rw [heach j hj]
      obtain ⟨g1, g2, g3, g4⟩ := hok j hj
      obtain ⟨⟨hc, _, _⟩, k0, k1, k2⟩ := (mayP_iff _ _ _).1 g1
      have := changeL_len hc (-ns.getD j 0) k0 k1 k2
      have := hst j hj
      omega
    · have hb : ∀ j, j < ls.length → opR true ((headPP false ls a b ns ls.length).getD j []) a b (ns.getD j 0) = (ls.getD j [], 0) := by
        intro j hj
        rw [heach j hj]
        obtain ⟨g1, g2, g3, g4⟩ := hok j hj
        exact give_back (by have := hst j hj; omega) g1 g2 g3 g4
      rw [changePP_ok hr2 (by rw [hl]; exact h2) (fun j hj => by rw [hl] at hj; rw [hb j hj]), hl]
      refine Prod.ext ?_ rfl
      show headPP true _ a b ns ls.length = ls
      refine list_of_getD (d := []) (headPP_len _ _ _ _ _ _) fun j hj => ?_
      rw [headPP_len] at hj
      rw [headPP_getD _ _ _ _ _ hj, hb j hj]
theorem atPP_len {ls : List (List (Int × Int))} (h : rightPP ls = true) (t : Int) : (atPP ls t).length = ls.length := by
  unfold atPP
  rw [if_pos h, List.length_map]
theorem atPP_getD {ls : List (List (Int × Int))} (h : rightPP ls = true) (t : Int) {j : Nat} (hj : j < ls.length) : (atPP ls t).getD j 0 = atR (ls.getD j []) t := by
  unfold atPP
  rw [if_pos h, List.getD, List.getD, List.getElem?_map, List.getElem?_eq_getElem hj]
  rfl
/-- at a time: so much less within the span, as much elsewhere -/
theorem taken_atPP {ls qs : List (List (Int × Int))} {a b t : Int} {ns : List Int} (hs : shortB ls = true) (h : Taken ls qs a b ns) (ht : timeB t = true) {j : Nat} (hj : j < ls.length) :
    (atPP qs t).getD j 0 = (atPP ls t).getD j 0 - (if a ≤ t ∧ t < b then ns.getD j 0 else 0) := by
  obtain ⟨_, hst⟩ := shortB_steps hs
  obtain ⟨g1, g2, g3, g4⟩ := h.ok j hj
  obtain ⟨⟨hc, _, _⟩, k0, k1, k2⟩ := (mayP_iff _ _ _).1 g1
  obtain ⟨hc2, hat⟩ := change_is hc (-ns.getD j 0) k0 k1 k2
  rw [atPP_getD h.right2 t (by rw [h.many]; exact hj), atPP_getD h.right t hj, h.each j hj]
  have ht' : 0 ≤ t ∧ t ≤ NEVER := by
    unfold timeB at ht
    rw [decide_eq_true_eq] at ht
    exact ht
  have hr1 := (rightPP_at h.right).2.2 j hj
  have hr2 := (taken_right (by have := hst j hj; omega) g1 g2 g4).1
  unfold atR
  rw [if_pos ⟨hr2, ht'⟩, if_pos ⟨hr1, ht'⟩, hat t ht'.1 ht'.2]
  unfold changeV
  split <;> omega

/-! ### the first time -/
theorem goodPP_parts {ls : List (List (Int × Int))} {a l : Int} {ns : List Int} (h : goodPP ls a l ns = true) :
    rightPP ls = true ∧ ns.length = ls.length ∧ 0 ≤ a ∧ a < NEVER ∧ 1 ≤ l ∧ ∀ j, j < ns.length → 0 ≤ ns.getD j 0 ∧ ns.getD j 0 ≤ MAXF := by
  unfold goodPP at h
  rwa [Bool.and_eq_true, decide_eq_true_eq] at h
theorem first_true {ls : List (List (Int × Int))} {a l t : Int} {ns : List Int} (h : firstPP ls a l ns = (t, true)) : goodPP ls a l ns = true ∧ IsFirstPP ls a l ns t := by
  cases hg : goodPP ls a l ns with
  | false => rw [firstPP_bad hg] at h; injection h with _ h; cases h
  | true =>
    rcases firstPP_is hg with ⟨u, e, hu⟩ | ⟨e, _⟩
    · rw [e] at h
      injection h with h _
      exact ⟨rfl, h ▸ hu⟩
    · rw [e] at h; injection h with _ h; cases h
theorem first_false {ls : List (List (Int × Int))} {a l t : Int} {ns : List Int} (h : firstPP ls a l ns = (t, false)) : t = 0 := by
  cases hg : goodPP ls a l ns with
  | false => rw [firstPP_bad hg] at h; injection h with h _; exact h.symm
  | true =>
    rcases firstPP_is hg with ⟨u, e, hu⟩ | ⟨e, _⟩
    · rw [e] at h; injection h with _ h; cases h
    · rw [e] at h; injection h with h _; exact h.symm
theorem mayP_mk {p : List (Int × Int)} {t l : Int} (hr : rightP p = true) (h0 : 0 ≤ t) (h1 : t < NEVER) (hl : 1 ≤ l) : mayP p t (plusZ t l) = true := by
  have hp := plus_lt h1 hl
  rw [plusZ_is h0 (by unfold NEVER at h1; omega) hl]
  exact (mayP_iff _ _ _).2 ⟨(rightP_iff p).1 hr, h0, hp.1, hp.2⟩
theorem holds_iff {p : List (Int × Int)} {t l n : Int} (hr : rightP p = true) (h0 : 0 ≤ t) (h1 : t < NEVER) (hl : 1 ≤ l) : Holds p l n t ↔ n ≤ leastL p t (plusZ t l) := by
  have hp := plus_lt h1 hl
  rw [plusZ_is h0 (by unfold NEVER at h1; omega) hl]
  exact (holds_least (least_is ((rightP_iff p).1 hr).1 h0 hp.1)).symm
/-- what First tells can be taken of all kinds -/
theorem first_taken {ls : List (List (Int × Int))} {a l t : Int} {ns : List Int} (hs : shortB ls = true) (h : firstPP ls a l ns = (t, true)) : ∃ qs, changePP false ls t (plusZ t l) ns = (qs, 0) := by
  obtain ⟨_, hst⟩ := shortB_steps hs
  obtain ⟨hg, h1, h2, h3, _⟩ := first_true h
  obtain ⟨r1, r2, r3, r4, r5, r6⟩ := goodPP_parts hg
  have hr := (rightPP_at r1).2.2
  refine ⟨_, changePP_ok r1 r2 fun j hj => ?_⟩
  have g := r6 j (by omega)
  show (takeR _ _ _ _).2 = 0
  rw [take_ok (by have := hst j hj; omega) (mayP_mk (hr j hj) (by omega) h2 r5) g.1 g.2 ((holds_iff (hr j hj) (by omega) h2 r5).1 (h3 j hj))]
/-- at an earlier time it can't -/
theorem first_early {ls : List (List (Int × Int))} {a l t e : Int} {ns : List Int} (hs : shortB ls = true) (h : firstPP ls a l ns = (t, true)) (he1 : a ≤ e) (he2 : e < t) : changePP false ls e (plusZ e l) ns = (ls, 5) := by
  obtain ⟨_, hst⟩ := shortB_steps hs
  obtain ⟨hg, h1, h2, _, h4⟩ := first_true h
  obtain ⟨r1, r2, r3, r4, r5, r6⟩ := goodPP_parts hg
  have hr := (rightPP_at r1).2.2
  have hcode : ∀ j, j < ls.length → (takeR (ls.getD j []) e (plusZ e l) (ns.getD j 0)).2 = if ns.getD j 0 ≤ leastL (ls.getD j []) e (plusZ e l) then 0 else 5 := by
    intro j hj
    have g := r6 j (by omega)
    have hm := mayP_mk (l := l) (hr j hj) (t := e) (by omega) (by omega) r5
    split
    · rename_i hle
      rw [take_ok (by have := hst j hj; omega) hm g.1 g.2 hle]
    · rename_i hle
      unfold takeR
      rw [if_neg (by rw [hm, decide_eq_true g]; simp), if_pos (by omega)]
  have hnot : ¬ HoldsPP ls l ns e := h4 e he1 he2
  rcases change_cases false ls e (plusZ e l) ns with ⟨er, hne, hc⟩ | ⟨_, _, h3, _⟩
  · -- which error it is
    by_cases hall : ∀ j, j < ls.length → (opR false (ls.getD j []) e (plusZ e l) (ns.getD j 0)).2 = 0
    · rw [changePP_ok r1 r2 hall] at hc
      injection hc with _ hc
      exact absurd hc.symm hne
    · obtain ⟨k, hk, hkm⟩ : ∃ k, (k < ls.length ∧ (opR false (ls.getD k []) e (plusZ e l) (ns.getD k 0)).2 ≠ 0) ∧ ∀ j, j < k → ¬ (j < ls.length ∧ (opR false (ls.getD j []) e (plusZ e l) (ns.getD j 0)).2 ≠ 0) := by
        have hex : ∃ k, k < ls.length ∧ (opR false (ls.getD k []) e (plusZ e l) (ns.getD k 0)).2 ≠ 0 :=
          Classical.byContradiction fun hc => hall fun j hj => Classical.byContradiction fun he => hc ⟨j, hj, he⟩
        obtain ⟨k0, hk0⟩ := hex
        induction k0 using Nat.strongRecOn with
        | ind k0 ih =>
          by_cases hm : ∃ j, j < k0 ∧ j < ls.length ∧ (opR false (ls.getD j []) e (plusZ e l) (ns.getD j 0)).2 ≠ 0
          · obtain ⟨j, hj, hj2⟩ := hm
            exact ih j hj hj2
          · exact ⟨k0, hk0, fun j hj hh => hm ⟨j, hj, hh⟩⟩
      rw [changePP_err r1 r2 hk.1 (fun j hj => Classical.byContradiction fun he => hkm j hj ⟨by omega, he⟩) hk.2]
      have := hcode k hk.1
      have h5 : (opR false (ls.getD k []) e (plusZ e l) (ns.getD k 0)).2 = 5 := by
        have hk2 := hk.2
        change (takeR _ _ _ _).2 ≠ 0 at hk2
        show (takeR _ _ _ _).2 = 5
        rw [this] at hk2 ⊢
        split at hk2
        · exact absurd rfl hk2
        · rename_i hh
          rw [if_neg hh]
      rw [h5]
  · refine absurd (fun j hj => ?_) hnot
    have := hcode j hj
    have h0 := h3 j hj
    change (takeR _ _ _ _).2 = 0 at h0
    rw [this] at h0
    split at h0
    · rename_i hle
      exact (holds_iff (hr j hj) (by omega) (by omega) r5).2 hle
    · cases h0

/-! ### pools of one kind -/
theorem one_right (p : List (Int × Int)) : rightPP [p] = rightP p := by
  unfold rightPP
  cases h : rightP p with
  | true =>
    refine decide_eq_true ⟨by simp, by simp, fun j hj => ?_⟩
    have : j = 0 := by simpa using hj
    subst this
    exact h
  | false =>
    rw [decide_eq_false_iff_not]
    intro hh
    have := hh.2.2 0 (by simp)
    rw [show ([p] : List (List (Int × Int))).getD 0 [] = p from rfl, h] at this
    cases this
theorem one_take {p : List (Int × Int)} {a b k : Int} (hl : p.length ≤ 100) (h : rightP p = true) : changePP false [p] a b [k] = ([(takeR p a b k).1], (takeR p a b k).2) := by
  have h1 : rightPP [p] = true := by rw [one_right, h]
  by_cases he : (takeR p a b k).2 = 0
  · rw [changePP_ok h1 rfl (fun j hj => by have : j = 0 := (by simpa using hj); subst this; exact he), he]
    rfl
  · rw [changePP_err (give := false) (ls := [p]) (a := a) (b := b) (ns := [k]) (k := 0) h1 rfl (by simp) (fun j hj => absurd hj (by omega)) he]
    show ([p], (takeR p a b k).2) = _
    rw [takeR_err (by omega) he]
theorem one_take_bad {p : List (Int × Int)} {a b k : Int} (h : rightP p = false) : changePP false [p] a b [k] = ([p], 1) := changePP_bad (.inl (by rw [one_right, h]))
theorem one_holds {p : List (Int × Int)} {l k t : Int} : HoldsPP [p] l [k] t ↔ Holds p l k t :=
  ⟨fun h => h 0 (by simp), fun h j hj => by have : j = 0 := (by simpa using hj); subst this; exact h⟩
theorem one_first {p : List (Int × Int)} {a l k : Int} : firstPP [p] a l [k] = firstR p a l k := by
  by_cases hg : rightP p = true ∧ 0 ≤ a ∧ a < 4611686018427387904 ∧ 1 ≤ l ∧ 0 ≤ k ∧ k ≤ 1048576
  · obtain ⟨g1, g2, g3, g4, g5, g6⟩ := hg
    have hgood : goodPP [p] a l [k] = true := by
      unfold goodPP NEVER MAXF
      rw [one_right, g1, decide_eq_true ⟨rfl, g2, g3, g4, fun j hj => by have : j = 0 := (by simpa using hj); subst this; exact ⟨g5, g6⟩⟩]
      rfl
    rcases firstPP_is hgood with ⟨t, e, ht⟩ | ⟨e, hn⟩
    · rcases firstR_is g1 g2 g3 g4 g5 g6 with ⟨u, e', hu⟩ | ⟨e', hn'⟩
      · rw [e, e']
        have : t = u := IsFirst.unique (p := p) (a := a) (l := l) (n := k) ⟨ht.1, ht.2.1, one_holds.1 ht.2.2.1, fun x h1 h2 h3 => ht.2.2.2 x h1 h2 (one_holds.2 h3)⟩ hu
        rw [this]
      · exact absurd (one_holds.1 ht.2.2.1) (hn' t ht.1 ht.2.1)
    · rcases firstR_is g1 g2 g3 g4 g5 g6 with ⟨u, e', hu⟩ | ⟨e', hn'⟩
      · exact absurd (one_holds.2 hu.2.2.1) (hn u hu.1 hu.2.1)
      · rw [e, e']
  · rw [firstR_bad (fun h => hg h)]
    refine firstPP_bad ?_
    unfold goodPP NEVER MAXF
    rw [Bool.and_eq_false_iff, decide_eq_false_iff_not, one_right]
    by_cases hp : rightP p = true
    · refine .inr fun hh => hg ⟨hp, hh.2.1, hh.2.2.1, hh.2.2.2.1, ?_⟩
      exact hh.2.2.2.2 0 (by simp)
    · exact .inl (by simpa using hp)

/-! ### pools of which so much is always free -/
def freeOk (n : Nat) (xs : List Int) (k : Nat) : Bool := decide (1 ≤ n ∧ n ≤ 4 ∧ ∀ j, j < k → 0 ≤ xs.getD j 0 ∧ xs.getD j 0 ≤ 1048576)
theorem newPP_bad {xs : List Int} (h : freeOk xs.length xs xs.length = false) : newPP xs = ([], 1) := by
  unfold freeOk at h
  rw [decide_eq_false_iff_not] at h
  unfold newPP
  rw [if_neg h]
theorem newPP_ok {xs : List Int} (h : freeOk xs.length xs xs.length = true) : newPP xs = (xs.map (fun k => [(0, k)]), 0) := by
  unfold freeOk at h
  rw [decide_eq_true_eq] at h
  unfold newPP
  rw [if_pos h]
theorem lone_right {k : Int} (h0 : 0 ≤ k) (h1 : k ≤ 1048576) : rightP [(0, k)] = true := by
  refine (rightP_iff _).2 ⟨⟨rfl, trivial⟩, fun s hs => ?_, by simp⟩
  rw [List.mem_singleton.1 hs]
  exact ⟨h0, by show k ≤ MAXF; unfold MAXF; omega⟩
theorem new_getD (xs : List Int) {j : Nat} (hj : j < xs.length) : (xs.map (fun k => [((0 : Int), k)])).getD j [] = [(0, xs.getD j 0)] := by
  rw [List.getD, List.getElem?_map, List.getElem?_eq_getElem hj, List.getD, List.getElem?_eq_getElem hj]
  rfl
theorem new_facts {xs : List Int} (h : freeOk xs.length xs xs.length = true) :
    (xs.map (fun k => [((0 : Int), k)])).length ≤ 10 ∧ (∀ j, j < (xs.map (fun k => [((0 : Int), k)])).length → ((xs.map (fun k => [((0 : Int), k)])).getD j []).length ≤ 1100) ∧
    rightPP (xs.map (fun k => [((0 : Int), k)])) = true ∧ ∀ t, timeB t = true → atPP (xs.map (fun k => [((0 : Int), k)])) t = xs := by
  unfold freeOk at h
  rw [decide_eq_true_eq] at h
  obtain ⟨h1, h2, h3⟩ := h
  have hr : rightPP (xs.map (fun k => [((0 : Int), k)])) = true := by
    refine rightPP_mk ⟨fun he => ?_, by rw [List.length_map]; exact h2, fun j hj => ?_⟩
    · have := congrArg List.length he
      rw [List.length_map] at this
      simp at this
      rw [this] at h1
      simp at h1
    · rw [List.length_map] at hj
      rw [new_getD xs hj]
      exact lone_right (h3 j hj).1 (h3 j hj).2
  refine ⟨by rw [List.length_map]; omega, fun j hj => ?_, hr, fun t ht => ?_⟩
  · rw [List.length_map] at hj
    rw [new_getD xs hj]
    simp
  · refine list_of_getD (d := 0) (by rw [atPP_len hr, List.length_map]) fun j hj => ?_
    rw [atPP_len hr, List.length_map] at hj
    rw [atPP_getD hr t (by rw [List.length_map]; exact hj), new_getD xs hj]
    unfold timeB at ht
    rw [decide_eq_true_eq] at ht
    unfold atR
    rw [if_pos ⟨lone_right (h3 j hj).1 (h3 j hj).2, ht⟩]
    have e : atP [(0, xs.getD j 0)] t = xs.getD j 0 := by
      unfold atP
      simp [atT, ht.1]
    exact e
theorem freeOk_succ {n k : Nat} {xs : List Int} : freeOk n xs (k + 1) = (freeOk n xs k && decide (0 ≤ xs.getD k 0) && decide (xs.getD k 0 ≤ 1048576)) := by
  rw [Bool.eq_iff_iff, Bool.and_eq_true, Bool.and_eq_true, decide_eq_true_eq, decide_eq_true_eq]
  unfold freeOk
  rw [decide_eq_true_eq, decide_eq_true_eq]
  constructor
  · rintro ⟨h1, h2, h3⟩
    exact ⟨⟨⟨h1, h2, fun j hj => h3 j (by omega)⟩, (h3 k (by omega)).1⟩, (h3 k (by omega)).2⟩
  · rintro ⟨⟨⟨h1, h2, h3⟩, h4⟩, h5⟩
    refine ⟨h1, h2, fun j hj => ?_⟩
    rcases Nat.lt_or_ge j k with h | h
    · exact h3 j h
    · obtain rfl : j = k := by omega
      exact ⟨h4, h5⟩

/-! ### what Change answers, in bounds -/
theorem changePP_steps (give : Bool) {ls : List (List (Int × Int))} (hs : shortB ls = true) (a b : Int) (ns : List Int) : ∀ j, j < (changePP give ls a b ns).1.length → ((changePP give ls a b ns).1.getD j []).length ≤ 1100 := by
  obtain ⟨_, hst⟩ := shortB_steps hs
  intro j hj
  rw [changePP_len] at hj
  have hp := hst j hj
  rcases change_cases give ls a b ns with ⟨er, _, e⟩ | ⟨_, _, _, e⟩
  · rw [e]
    show (ls.getD j []).length ≤ 1100
    omega
  · rw [e]
    show ((headPP give ls a b ns ls.length).getD j []).length ≤ 1100
    rw [headPP_getD _ _ _ _ _ hj]
    cases give
    · have := takeR_len (ls.getD j []) a b (ns.getD j 0)
      show (takeR _ _ _ _).1.length ≤ 1100
      omega
    · have := giveR_len (ls.getD j []) a b (ns.getD j 0)
      show (giveR _ _ _ _).1.length ≤ 1100
      omega
theorem opR_err (give : Bool) (p : List (Int × Int)) (a b k : Int) : 0 ≤ (opR give p a b k).2 ∧ (opR give p a b k).2 ≤ 9 := by
  cases give
  · show 0 ≤ (takeR p a b k).2 ∧ (takeR p a b k).2 ≤ 9
    unfold takeR
    repeat' split
    all_goals (constructor <;> simp)
  · show 0 ≤ (giveR p a b k).2 ∧ (giveR p a b k).2 ≤ 9
    unfold giveR
    repeat' split
    all_goals (constructor <;> simp)
theorem changePP_err_range (give : Bool) (ls : List (List (Int × Int))) (a b : Int) (ns : List Int) : 0 ≤ (changePP give ls a b ns).2 ∧ (changePP give ls a b ns).2 ≤ 9 := by
  unfold changePP
  split
  · constructor <;> simp
  · split
    · exact opR_err _ _ _ _ _
    · constructor <;> simp

end Go.Proofs.Ytkhnlbkghjjdnaa
