/- A queue to which a job comes, or in which something happens to one, in plain words. No program's text is walked here. -/
import Derived.Test.YtimgdlddfnglaaaMg07
namespace Go.Proofs.Ytimgdlddfnglaaa

section
variable {l : Qu} {id what now : Int} {i k : Nat} {j : Jb} {s : Sp} {ns : List Int}
theorem mem_readyQ {x : Int} : x ∈ readyQ l ↔ RightQ l ∧ ∃ i, i < l.length ∧ (jAt l i).id = x ∧ readyB l (jAt l i) = true := by
  unfold readyQ
  split
  · rename_i h
    rw [List.mem_map]
    constructor
    · rintro ⟨y, hy, e⟩
      obtain ⟨h1, h2⟩ := mem_readyL.1 hy
      obtain ⟨i, hi, e2⟩ := mem_jAt h1
      exact ⟨h, i, hi, by rw [e2]; exact e, by rw [e2]; exact h2⟩
    · rintro ⟨_, i, hi, e, h2⟩
      exact ⟨jAt l i, mem_readyL.2 ⟨jAt_mem hi, h2⟩, e⟩
  · rename_i h
    exact ⟨(fun h' => by cases h'), (fun h' => absurd h'.1 h)⟩
theorem mem_lostQ {x : Int} : x ∈ lostQ l ↔ RightQ l ∧ ∃ i, i < l.length ∧ (jAt l i).id = x ∧ Lost l (jAt l i) := by
  unfold lostQ
  split
  · rename_i h
    rw [List.mem_map]
    constructor
    · rintro ⟨y, hy, e⟩
      obtain ⟨h1, h2⟩ := List.mem_filter.1 hy
      obtain ⟨i, hi, e2⟩ := mem_jAt h1
      exact ⟨h, i, hi, by rw [e2]; exact e, by rw [e2]; exact lostB_iff.1 h2⟩
    · rintro ⟨_, i, hi, e, h2⟩
      exact ⟨jAt l i, List.mem_filter.2 ⟨jAt_mem hi, lostB_iff.2 h2⟩, e⟩
  · rename_i h
    exact ⟨(fun h' => by cases h'), (fun h' => absurd h'.1 h)⟩

/-! a job more -/
theorem jAt_app (h : i < l.length) : jAt (l ++ [j]) i = jAt l i := by
  rw [jAt_lt h, jAt_lt (by simp; omega), List.getElem_append_left h]
theorem jAt_end : jAt (l ++ [j]) l.length = j := by
  rw [jAt_lt (by simp)]; simp
theorem atN_app (h : HasQ l id) : atN (l ++ [j]) id = atN l id := by
  refine atN_eq (by have : atN l id < l.length := h; simp; omega) ?_ fun k hk => ?_
  · rw [jAt_app h]; exact atN_id h
  · have hl : k < l.length := Nat.lt_trans hk h
    rw [jAt_app hl]; exact atN_before hk
theorem has_app (h : HasQ l id) : HasQ (l ++ [j]) id := by
  have h1 : atN l id < l.length := h
  unfold HasQ; rw [atN_app h]; simp; omega
theorem jOf_app (h : HasQ l id) : jOf (l ++ [j]) id = jOf l id := by unfold jOf; rw [atN_app h]; exact jAt_app h
theorem RightQ.last_id (h : RightQ l) (hi : i < l.length) : (jAt l i).id ≤ lastId l := by
  unfold lastId
  rcases Nat.lt_or_ge i (l.length - 1) with h1 | h1
  · have := h.rise h1 (by omega); omega
  · have : i = l.length - 1 := by omega
    subst this; exact Int.le_refl _
theorem add_parts (h : addQE l s ns now = 0) : AddArg l s ns now ∧ AllHas l ns ∧ l.length < 64 ∧ nextId l ≤ 1073741824 := by
  unfold addQE at h
  split at h
  · rename_i h1
    split at h
    · rename_i h2
      split at h
      · omega
      · split at h
        · omega
        · exact ⟨h1, h2, by omega, by omega⟩
    · omega
  · omega
theorem next_more (h : RightQ l) (hi : i < l.length) : (jAt l i).id < nextId l := by
  have := h.last_id hi
  unfold nextId; rw [if_neg (by omega)]; omega
theorem next_pos (h : RightQ l) : 1 ≤ nextId l := by
  unfold nextId
  split
  · omega
  · have := (h.job (i := l.length - 1) (by omega)).1.1.1
    unfold lastId; omega
theorem add_job (h : addQE l s ns now = 0) : RightJ (addJ l s ns now) := by
  obtain ⟨⟨h1, h2, h3, h4, h5, h6⟩, h7, h8, h9⟩ := add_parts h
  refine ⟨⟨⟨next_pos h1, h9⟩, h2, h3, h5⟩, fun i hi => ?_, ⟨⟨by show (0 : Int) ≤ 0; decide, by show (0 : Int) ≤ 6; decide⟩, by show TimeOk 0; decide, by show TimeOk 0; decide⟩, ?_, ?_⟩
  · have h10 := h7 i hi
    have h11 := next_more h1 (i := atN l (ns.getD i 0)) h10
    have h12 := atN_id h10
    unfold jOf at h12
    rw [h12] at h11
    exact ⟨(h4 i hi).1, h11, (h4 i hi).2⟩
  · show if (0 : Int) = 0 ∨ (0 : Int) = 1 ∨ (0 : Int) = 6 then (0 : Int) = 0 else _
    rw [if_pos (.inl rfl)]
  · show if (0 : Int) < 3 then (0 : Int) = 0 else _
    rw [if_pos (by decide)]
theorem add_right (h : addQE l s ns now = 0) : RightQ (l ++ [addJ l s ns now]) := by
  obtain ⟨⟨h1, h2, h3, h4, h5, h6⟩, h7, h8, h9⟩ := add_parts h
  refine ⟨by simp; omega, fun i hi => ?_⟩
  rcases Nat.lt_or_ge i l.length with hil | hil
  · obtain ⟨g1, g2, g3⟩ := h1.2 i hil
    refine ⟨by rw [jAt_app hil]; exact g1, fun h0 => ?_, fun k hk => ?_⟩
    · rw [jAt_app hil, jAt_app (by omega)]; exact g2 h0
    · rw [jAt_app hil] at hk ⊢; exact has_app (g3 k hk)
  · have e : i = l.length := by simp at hi; omega
    subst e
    refine ⟨by rw [jAt_end]; exact add_job h, fun h0 => ?_, fun k hk => ?_⟩
    · rw [jAt_end, jAt_app (by omega)]
      refine ⟨next_more h1 (by omega), ?_⟩
      exact h6 h0
    · rw [jAt_end] at hk ⊢; exact has_app (h7 k hk)
theorem addq_yes (h : addQE l s ns now = 0) : addQL l s ns now = l ++ [addJ l s ns now] ∧ addN l s ns now = nextId l := ⟨if_pos h, if_pos h⟩
theorem addq_no (h : addQE l s ns now ≠ 0) : addQL l s ns now = l ∧ addN l s ns now = 0 := ⟨if_neg h, if_neg h⟩
theorem add_at (h : addQE l s ns now = 0) : atN (l ++ [addJ l s ns now]) (nextId l) = l.length := by
  obtain ⟨⟨h1, _⟩, _⟩ := add_parts h
  refine atN_eq (by simp) (by rw [jAt_end]; rfl) fun k hk => ?_
  rw [jAt_app hk]
  have := next_more h1 hk
  omega
theorem add_get (h : addQE l s ns now = 0) : GetQ (l ++ [addJ l s ns now]) (nextId l) ∧ getQ (l ++ [addJ l s ns now]) (nextId l) = addJ l s ns now := by
  have h1 : GetQ (l ++ [addJ l s ns now]) (nextId l) := ⟨add_right h, by unfold HasQ; rw [add_at h]; simp⟩
  exact ⟨h1, by unfold getQ; rw [if_pos h1]; unfold jOf; rw [add_at h, jAt_end]⟩
theorem add_ready (h : addQE l s ns now = 0) : nextId l ∈ readyQ (l ++ [addJ l s ns now]) ↔ ∀ q, q < ns.length → (jOf l (ns.getD q 0)).state = 3 := by
  obtain ⟨⟨h1, _⟩, h7, _⟩ := add_parts h
  rw [mem_readyQ]
  constructor
  · rintro ⟨_, i, hi, e, hb⟩
    have hie : i = l.length := by
      rcases Nat.lt_or_ge i l.length with hil | hil
      · rw [jAt_app hil] at e
        have := next_more h1 hil; omega
      · simp at hi; omega
    subst hie
    rw [jAt_end] at hb
    intro q hq
    have := (of_decide_eq_true hb).2 q hq
    rw [show (addJ l s ns now).needs = ns from rfl, jOf_app (h7 q hq)] at this
    exact this
  · intro hq
    refine ⟨add_right h, l.length, by simp, by rw [jAt_end]; rfl, ?_⟩
    rw [jAt_end]
    refine decide_eq_true ⟨rfl, fun q hq2 => ?_⟩
    rw [show (addJ l s ns now).needs = ns from rfl] at hq2 ⊢
    rw [jOf_app (h7 q hq2)]
    exact hq q hq2
theorem add_lost (hr : RightQ l) (hi : i < l.length) (h : Lost l (jAt l i)) : Lost (l ++ [j]) (jAt (l ++ [j]) i) := by
  rw [jAt_app hi]
  induction i using Nat.strongRecOn with
  | _ i ih =>
    obtain ⟨h1, k, hk, h2⟩ := lost_iff.1 h
    have hh := hr.needs hi k hk
    have ha := hr.ahead hi hk
    rcases h2 with h2 | h2
    · exact .ended _ k h1 hk (by rw [jOf_app hh]; exact h2)
    · refine .lost _ k h1 hk ?_
      rw [jOf_app hh]
      exact ih _ ha hh h2

/-! something happens to one -/
theorem doJ_same : (doJ j what now).id = j.id ∧ (doJ j what now).needs = j.needs ∧ (doJ j what now).came = j.came ∧ (doJ j what now).spec = j.spec := by
  unfold doJ
  split
  · exact ⟨rfl, rfl, rfl, rfl⟩
  · exact ⟨rfl, rfl, rfl, rfl⟩
theorem doJ_right (h : RightJ j) : RightJ (doJ j what now) := by
  by_cases h1 : doE j what now = 0
  · rw [doJ_ok h1]; exact do_right h1
  · rw [doJ_no h1]; exact h
theorem doQ_len : (doQ l id what now).length = l.length := by unfold doQ; rw [List.length_set]
theorem doQ_at (h : HasQ l id) : jAt (doQ l id what now) (atN l id) = doJ (jOf l id) what now := by
  have h1 : atN l id < l.length := h
  unfold jAt doQ
  rw [List.getD, List.getElem?_set_self h1]; rfl
theorem doQ_other (h : i ≠ atN l id) : jAt (doQ l id what now) i = jAt l i := by
  unfold jAt doQ
  rw [List.getD, List.getD, List.getElem?_set_ne (fun e => h e.symm)]
theorem doQ_same : (jAt (doQ l id what now) i).id = (jAt l i).id ∧ (jAt (doQ l id what now) i).needs = (jAt l i).needs ∧ (jAt (doQ l id what now) i).came = (jAt l i).came := by
  by_cases h : i = atN l id
  · by_cases hh : HasQ l id
    · subst h
      rw [doQ_at hh]
      exact ⟨doJ_same.1, doJ_same.2.1, doJ_same.2.2.1⟩
    · subst h
      have h1 : ¬ atN l id < l.length := hh
      rw [jAt_out (by rw [doQ_len]; exact h1), jAt_out h1]
      exact ⟨rfl, rfl, rfl⟩
  · rw [doQ_other h]; exact ⟨rfl, rfl, rfl⟩
theorem doQ_atN {x : Int} : atN (doQ l id what now) x = atN l x := by
  have key : ∀ (a b : Qu), a.length = b.length → (∀ i, (jAt a i).id = (jAt b i).id) → ¬ atN a x < atN b x := by
    intro a b hl he h
    have h1 : atN a x < a.length := by have := atN_le (l := b) (id := x); omega
    have h2 := atN_id (l := a) (id := x) h1
    unfold jOf at h2
    rw [he] at h2
    exact atN_before h h2
  have h1 := key (doQ l id what now) l doQ_len (fun i => doQ_same.1)
  have h2 := key l (doQ l id what now) doQ_len.symm (fun i => doQ_same.1.symm)
  omega
theorem doQ_has {x : Int} : HasQ (doQ l id what now) x ↔ HasQ l x := by unfold HasQ; rw [doQ_atN, doQ_len]
theorem doQ_right (h : RightQ l) : RightQ (doQ l id what now) := by
  refine ⟨by rw [doQ_len]; exact h.1, fun i hi => ?_⟩
  rw [doQ_len] at hi
  obtain ⟨g1, g2, g3⟩ := h.2 i hi
  refine ⟨?_, fun h0 => ?_, fun k hk => ?_⟩
  · by_cases e : i = atN l id
    · by_cases hh : HasQ l id
      · subst e; rw [doQ_at hh]; exact doJ_right g1
      · exact absurd (show atN l id < l.length by rw [← e]; exact hi) hh
    · rw [doQ_other e]; exact g1
  · rw [doQ_same.1, doQ_same.1, doQ_same.2.2, doQ_same.2.2]; exact g2 h0
  · rw [doQ_same.2.1] at hk ⊢; exact doQ_has.2 (g3 k hk)
/-- nothing happens to what has ended -/
theorem doE_over (h : overJ j.state = true) : doE j what now ≠ 0 := by
  intro h1
  have := (do_ok.1 h1).2
  have := over_no (what := what) h
  omega
theorem doQ_over (h : overJ (jAt l i).state = true) (hi : i < l.length) : jAt (doQ l id what now) i = jAt l i := by
  by_cases e : i = atN l id
  · have hh : HasQ l id := by unfold HasQ; rw [← e]; exact hi
    subst e
    rw [doQ_at hh]
    exact doJ_no (doE_over h)
  · exact doQ_other e
/-- the state behind what happens to one that waits or is held, where it doesn't begin -/
theorem do_state (hs : j.state ≤ 1) (hw : what ≠ 3) (h : doE j what now = 0) : (doJ j what now).state ≤ 1 ∨ (3 < (doJ j what now).state ∧ overJ (doJ j what now).state = true) := by
  have h1 := (do_ok.1 h).2
  rw [doJ_ok h]
  show nextZ j.state what ≤ 1 ∨ (3 < nextZ j.state what ∧ overJ (nextZ j.state what) = true)
  have hr := next_range j.state what
  have hst : (0 : Int) ≤ j.state := (do_ok.1 h).1.1.2.2.1.1.1
  have h2 : j.state = 0 ∨ j.state = 1 := by omega
  have hov : ∀ x : Int, 3 ≤ x → x ≤ 6 → overJ x = true := fun x a b => decide_eq_true ⟨a, b⟩
  rcases h2 with e | e
  all_goals
    rw [e] at h1 hr ⊢
    unfold nextZ at *
    simp only [show ((1 : Int) = 0) = False from by simp, if_true, if_false] at *
    repeat' split at h1
    all_goals first
      | omega
      | (simp_all; done)
      | (simp_all; exact hov _ (by decide) (by decide))
theorem do_lost (hr : RightQ l) (hw : what ≠ 3 ∨ id ∈ readyQ l) (hi : i < l.length) (h : Lost l (jAt l i)) :
    overJ (jAt (doQ l id what now) i).state = true ∨ Lost (doQ l id what now) (jAt (doQ l id what now) i) := by
  induction i using Nat.strongRecOn with
  | _ i ih =>
    obtain ⟨h1, k, hk, h2⟩ := lost_iff.1 h
    have hh := hr.needs hi k hk
    have ha := hr.ahead hi hk
    -- the one that is needed, behind it
    have hnd : 3 < (jOf (doQ l id what now) ((jAt l i).needs.getD k 0)).state ∨ Lost (doQ l id what now) (jOf (doQ l id what now) ((jAt l i).needs.getD k 0)) := by
      unfold jOf
      rw [doQ_atN]
      rcases h2 with h2 | h2
      · refine .inl ?_
        unfold jOf at h2
        have hj := hr.job hh
        rw [doQ_over (decide_eq_true ⟨by omega, hj.2.2.1.1.2⟩) hh]; exact h2
      · unfold jOf at h2
        rcases ih _ ha hh h2 with h3 | h3
        · by_cases e : atN l ((jAt l i).needs.getD k 0) = atN l id
          · have hhid : HasQ l id := by unfold HasQ; rw [← e]; exact hh
            rw [e] at h2 h3 ⊢
            rw [doQ_at hhid] at h3 ⊢
            by_cases hz : doE (jOf l id) what now = 0
            · have hne : what ≠ 3 := by
                rcases hw with hw | hw
                · exact hw
                · obtain ⟨_, q, hq, e2, hb⟩ := mem_readyQ.1 hw
                  have : jAt l (atN l id) = jAt l q := by rw [← e2, hr.at_id hq]
                  rw [this] at h2
                  exact absurd h2 (ready_lost hb)
              rcases do_state (show (jOf l id).state ≤ 1 from h2.state) hne hz with h4 | h4
              · have := of_decide_eq_true h3; omega
              · exact .inl h4.1
            · rw [doJ_no hz] at h3
              have h4 := of_decide_eq_true h3
              have h5 : (jOf l id).state ≤ 1 := h2.state
              omega
          · rw [doQ_other e] at h3
            have := h2.state
            have := of_decide_eq_true h3
            omega
        · exact .inr h3
    by_cases e : i = atN l id
    · have hhid : HasQ l id := by unfold HasQ; rw [← e]; exact hi
      have hj : jOf l id = jAt l i := by unfold jOf; rw [← e]
      have hne : what ≠ 3 ∨ doE (jAt l i) what now ≠ 0 := by
        rcases hw with hw | hw
        · exact .inl hw
        · obtain ⟨_, q, hq, e2, hb⟩ := mem_readyQ.1 hw
          have : jAt l i = jAt l q := by rw [e, ← e2, hr.at_id hq]
          rw [this] at h
          exact absurd h (ready_lost hb)
      have hx : jAt (doQ l id what now) i = doJ (jAt l i) what now := by rw [e, doQ_at hhid, hj, ← e]
      rw [hx]
      by_cases hz : doE (jAt l i) what now = 0
      · rcases do_state h1 (hne.resolve_right (fun h' => h' hz)) hz with h4 | h4
        · refine .inr (lost_iff.2 ⟨h4, k, by rw [doJ_same.2.1]; exact hk, ?_⟩)
          rw [doJ_same.2.1]; exact hnd
        · exact .inl h4.2
      · rw [doJ_no hz]
        exact .inr (lost_iff.2 ⟨h1, k, hk, hnd⟩)
    · rw [doQ_other e]
      exact .inr (lost_iff.2 ⟨h1, k, hk, hnd⟩)

/-! what is told, one by one -/
theorem ready_one {x : Int} (hi : i < (readyQ l).length) (hx : (readyQ l).getD i 0 = x) : RightQ l ∧ ∃ p, p < l.length ∧ (jAt l p).id = x ∧ readyB l (jAt l p) = true :=
  mem_readyQ.1 (by rw [← hx]; exact mem_getQ hi)
theorem lost_one {x : Int} (hi : i < (lostQ l).length) (hx : (lostQ l).getD i 0 = x) : RightQ l ∧ ∃ p, p < l.length ∧ (jAt l p).id = x ∧ Lost l (jAt l p) :=
  mem_lostQ.1 (by rw [← hx]; exact mem_getQ hi)
theorem getq_at (h : RightQ l) {p : Nat} {x : Int} (hp : p < l.length) (e : (jAt l p).id = x) : GetQ l x ∧ getQ l x = jAt l p := by
  subst e
  have h1 : GetQ l (jAt l p).id := ⟨h, has_at hp⟩
  exact ⟨h1, by unfold getQ; rw [if_pos h1]; exact h.of_id hp⟩
theorem get_has (h : RightQ l) {x : Int} (hh : HasQ l x) : GetQ l x ∧ getQ l x = jOf l x := ⟨⟨h, hh⟩, if_pos ⟨h, hh⟩⟩
theorem ready_has' {x : Jb} (h : x ∈ readyL l) : ∃ i, i < l.length ∧ jAt l i = x ∧ readyB l x = true := by
  have h1 := mem_readyL.1 h
  obtain ⟨i, hi, e⟩ := mem_jAt h1.1
  exact ⟨i, hi, e, h1.2⟩
theorem ready_before {x y : Int} (hi : i < (readyQ l).length) (h0 : 0 < i) (hx : (readyQ l).getD i 0 = x) (hy : (readyQ l).getD (i - 1) 0 = y) : Before (getQ l y) (getQ l x) := by
  have hr := (ready_one hi hx).1
  have e : readyQ l = (readyL l).map Jb.id := if_pos hr
  have hl : (readyQ l).length = (readyL l).length := by rw [e, List.length_map]
  have key : ∀ k, k < (readyL l).length → ∀ z, (readyQ l).getD k 0 = z → ∃ hk : k < (readyL l).length, getQ l z = (readyL l)[k] := by
    intro k hk z hz
    refine ⟨hk, ?_⟩
    have h1 : (readyL l)[k].id = z := by
      rw [← hz, e, List.getD, List.getElem?_eq_getElem (by rw [List.length_map]; exact hk)]
      simp
    obtain ⟨p, hp, e2, _⟩ := ready_has' (List.getElem_mem hk)
    rw [(getq_at hr hp (by rw [e2]; exact h1)).2, e2]
  obtain ⟨h1, e1⟩ := key i (by omega) x hx
  obtain ⟨h2, e2⟩ := key (i - 1) (by omega) y hy
  rw [e1, e2]
  exact List.pairwise_iff_getElem.1 hr.readyOrder (i - 1) i h2 h1 (by omega)
theorem ready_apart {x y : Int} (hi : i < (readyQ l).length) (hx : (readyQ l).getD i 0 = x) (hk : k < (lostQ l).length) (hy : (lostQ l).getD k 0 = y) : y ≠ x := by
  intro e
  obtain ⟨hr, p, hp, e1, hb⟩ := ready_one hi hx
  obtain ⟨_, q, hq, e2, hl⟩ := lost_one hk hy
  have : p = q := hr.one hp hq (by rw [e1, e2, e])
  subst this
  exact ready_lost hb hl

/-! from a queue to the next one -/
structure StepQ (q q' : Qu) : Prop where
  right : RightQ q'
  len : q.length ≤ q'.length ∧ q'.length ≤ q.length + 1
  id : ∀ i, i < q.length → (jAt q' i).id = (jAt q i).id
  lost : ∀ i, i < q.length → Lost q (jAt q i) → overJ (jAt q' i).state = true ∨ Lost q' (jAt q' i)
  over : ∀ i, i < q.length → overJ (jAt q i).state = true → jAt q' i = jAt q i
theorem step_same (h : RightQ l) : StepQ l l := ⟨h, ⟨Nat.le_refl _, Nat.le_succ _⟩, fun _ _ => rfl, fun _ _ h => .inr h, fun _ _ _ => rfl⟩
theorem step_add (h : RightQ l) : StepQ l (addQL l s ns now) := by
  by_cases he : addQE l s ns now = 0
  · rw [(addq_yes he).1]
    exact ⟨add_right he, by simp, fun i hi => by rw [jAt_app hi], fun i hi hl => .inr (add_lost h hi hl), fun i hi _ => jAt_app hi⟩
  · rw [(addq_no he).1]; exact step_same h
theorem step_do (h : RightQ l) (hw : what ≠ 3 ∨ id ∈ readyQ l) : StepQ l (doQ l id what now) :=
  ⟨doQ_right h, by rw [doQ_len]; omega, fun i _ => doQ_same.1, fun i hi hl => do_lost h hw hi hl, fun i hi ho => doQ_over ho hi⟩
theorem right_nil : RightQ [] := ⟨by decide, fun i hi => absurd hi (by simp)⟩
end

end Go.Proofs.Ytimgdlddfnglaaa
