/- Plain facts on sets of numbers as texts: runs, numerals, commas; no condition. -/
import Derived.Test.YtgifhbjcelkjkaaDoorSetMath
import Derived.Lib.ItoaNum
namespace Go.Proofs.YtgifhbjcelkjkaaDoor

/-- the runs of a rising list: first and last number of each -/
def runsOf : List Int → List (Int × Int)
  | [] => []
  | x :: t => match runsOf t with
    | [] => [(x, x)]
    | (a, b) :: rs => if a = x + 1 then (x, b) :: rs else (x, x) :: (a, b) :: rs
/-- how many numbers at the beginning stand side by side -/
def runLen : List Int → Nat
  | [] => 0
  | [_] => 1
  | x :: y :: t => if y = x + 1 then runLen (y :: t) + 1 else 1

theorem runLen_pos {l : List Int} (h : l ≠ []) : 0 < runLen l := by
  match l, h with
  | [_], _ => simp [runLen]
  | x :: y :: t, _ => unfold runLen; split <;> omega
theorem runLen_le : ∀ l : List Int, runLen l ≤ l.length
  | [] => by simp [runLen]
  | [_] => by simp [runLen]
  | x :: y :: t => by
    have := runLen_le (y :: t)
    unfold runLen
    split <;> simp at this ⊢ <;> omega
theorem runLen_is : ∀ (l : List Int) (k : Nat), 0 < k → k ≤ l.length → (∀ j, 0 < j → j < k → l.getD j 0 = l.getD (j - 1) 0 + 1) → (k = l.length ∨ l.getD k 0 ≠ l.getD (k - 1) 0 + 1) → runLen l = k
  | [], k, h0, h1, _, _ => by simp at h1; omega
  | [_], k, h0, h1, _, _ => by simp at h1; unfold runLen; omega
  | x :: y :: t, k, h0, h1, h2, h3 => by
    unfold runLen
    by_cases hk : k = 1
    · subst hk
      have : y ≠ x + 1 := by
        rcases h3 with h3 | h3
        · simp at h3
        · simpa using h3
      rw [if_neg this]
    · have hy : y = x + 1 := by have := h2 1 (by omega) (by omega); simpa using this
      rw [if_pos hy]
      have ih := runLen_is (y :: t) (k - 1) (by omega) (by simp at h1 ⊢; omega) (fun j hj hjk => by
        have := h2 (j + 1) (by omega) (by omega)
        have e : j + 1 - 1 = (j - 1) + 1 := by omega
        rw [e, List.getD_cons_succ, List.getD_cons_succ] at this
        exact this) (by
        rcases h3 with h3 | h3
        · left; simp at h3 ⊢; omega
        · right
          have e : k = (k - 1) + 1 := by omega
          have e2 : k - 1 = (k - 1 - 1) + 1 := by omega
          rw [e, List.getD_cons_succ, Nat.add_sub_cancel] at h3
          conv at h3 => rhs; lhs; rw [e2]
          rw [List.getD_cons_succ] at h3
          exact h3)
      omega
theorem runLen_last : ∀ l : List Int, l ≠ [] → l.getD (runLen l - 1) 0 = l.getD 0 0 + ((runLen l - 1 : Nat) : Int)
  | [], h => absurd rfl h
  | [_], _ => by simp [runLen]
  | x :: y :: t, _ => by
    have ih := runLen_last (y :: t) (by simp)
    have hp := runLen_pos (l := y :: t) (by simp)
    unfold runLen
    split
    · rename_i hy
      have e : runLen (y :: t) + 1 - 1 = (runLen (y :: t) - 1) + 1 := by omega
      rw [e, List.getD_cons_succ, ih]
      simp
      omega
    · simp
theorem runsOf_step : ∀ l : List Int, l ≠ [] → runsOf l = (l.getD 0 0, l.getD (runLen l - 1) 0) :: runsOf (l.drop (runLen l))
  | [], h => absurd rfl h
  | [x], _ => by simp [runsOf, runLen]
  | x :: y :: t, _ => by
    have ih := runsOf_step (y :: t) (by simp)
    have hp := runLen_pos (l := y :: t) (by simp)
    rw [runsOf, ih]
    simp only [List.getD_cons_zero]
    by_cases hy : y = x + 1
    · rw [if_pos hy, runLen, if_pos hy]
      have e : runLen (y :: t) + 1 - 1 = (runLen (y :: t) - 1) + 1 := by omega
      rw [e, List.getD_cons_succ, List.drop_succ_cons]
    · rw [if_neg hy, runLen, if_neg hy]
      simp [ih]
theorem runsOf_nil {l : List Int} : runsOf l = [] ↔ l = [] := by
  constructor
  · intro h
    cases l with
    | nil => rfl
    | cons x t => rw [runsOf_step _ (by simp)] at h; cases h
  · rintro rfl; rfl

/-- a run as a text -/
def item (r : Int × Int) : List UInt8 := if r.1 < r.2 then Lib.itoa r.1 ++ 45 :: Lib.itoa r.2 else Lib.itoa r.1
/-- texts with a comma between -/
def joinC : List (List UInt8) → List UInt8
  | [] => []
  | [x] => x
  | x :: y :: t => x ++ 44 :: joinC (y :: t)
def showL (l : List Int) : List UInt8 := joinC ((runsOf l).map item)

theorem joinC_cons {x : List UInt8} {t : List (List UInt8)} (h : t ≠ []) : joinC (x :: t) = x ++ 44 :: joinC t := by
  cases t with
  | nil => exact absurd rfl h
  | cons y t => rfl
theorem joinC_snoc (ds : List (List UInt8)) (x : List UInt8) (h : ds ≠ []) : joinC (ds ++ [x]) = joinC ds ++ 44 :: x := by
  induction ds with
  | nil => exact absurd rfl h
  | cons y t ih =>
    cases t with
    | nil => rfl
    | cons z t =>
      have := ih (by simp)
      show y ++ 44 :: joinC ((z :: t) ++ [x]) = (y ++ 44 :: joinC (z :: t)) ++ 44 :: x
      rw [this]; simp
theorem itoa_ne (n : Int) : Lib.itoa n ≠ [] := by
  unfold Lib.itoa
  split
  · simp
  · intro h
    rw [Lib.decDigits] at h
    split at h <;> simp at h
theorem item_ne (r : Int × Int) : item r ≠ [] := by
  unfold item
  split
  · simp
  · exact itoa_ne _
theorem joinC_ne {ds : List (List UInt8)} (h : ds ≠ []) (hx : ∀ x ∈ ds, x ≠ []) : joinC ds ≠ [] := by
  cases ds with
  | nil => exact absurd rfl h
  | cons y t =>
    cases t with
    | nil => exact hx y (by simp)
    | cons z t => simp [joinC]

/-- what the runs of a set are -/
def RunsOk (l : List Int) (rs : List (Int × Int)) : Prop :=
  rs.Pairwise (fun r s => r.1 < s.1) ∧ (∀ r ∈ rs, r.1 ≤ r.2 ∧ (∀ m, r.1 ≤ m → m ≤ r.2 → m ∈ l) ∧ r.1 - 1 ∉ l ∧ r.2 + 1 ∉ l) ∧ (∀ n ∈ l, n - 1 ∉ l → ∃ z, (n, z) ∈ rs)
theorem runsOf_head {l : List Int} {a b : Int} {rs : List (Int × Int)} (h : runsOf l = (a, b) :: rs) : ∃ t, l = a :: t := by
  cases l with
  | nil => cases h
  | cons x t =>
    rw [runsOf_step _ (by simp)] at h
    injection h with h _
    injection h with h _
    exact ⟨t, by rw [← h]; rfl⟩
theorem runs_ok : ∀ l : List Int, rightB l = true → RunsOk l (runsOf l)
  | [], _ => ⟨List.Pairwise.nil, by simp [runsOf], by simp⟩
  | x :: t, h => by
    have ih := runs_ok t (right_tail h)
    have hlt := right_below h
    rw [runsOf]
    cases hr : runsOf t with
    | nil =>
      have ht : t = [] := runsOf_nil.1 hr
      subst ht
      refine ⟨by simp, ?_, ?_⟩
      · intro r hrr
        simp at hrr; subst hrr
        refine ⟨Int.le_refl _, fun m h1 h2 => by have : m = x := by omega
                                                 simp [this], by simp; omega, by simp; omega⟩
      · intro n hn _
        simp at hn; subst hn
        exact ⟨n, by simp⟩
    | cons ab rs =>
      obtain ⟨a, b⟩ := ab
      rw [hr] at ih
      obtain ⟨hs, h1, h2⟩ := ih
      obtain ⟨t', ht⟩ := runsOf_head hr
      have hxa : x < a := hlt a (by rw [ht]; simp)
      have hsa : ∀ r ∈ rs, a < r.1 := fun r hr => List.rel_of_pairwise_cons hs hr
      have hmin : ∀ y ∈ t, a ≤ y := fun y hy => by
        rw [ht] at hy
        rcases List.mem_cons.1 hy with e | e
        · omega
        · have := right_below (by rw [← ht]; exact right_tail h : rightB (a :: t') = true) y e; omega
      simp only
      by_cases hax : a = x + 1
      · rw [if_pos hax]
        refine ⟨List.pairwise_cons.2 ⟨fun r hr => by have := hsa r hr; show x < r.1; omega, (List.pairwise_cons.1 hs).2⟩, ?_, ?_⟩
        · intro r hrr
          rcases List.mem_cons.1 hrr with e | e
          · subst e
            obtain ⟨g1, g2, g3, g4⟩ := h1 (a, b) (by simp)
            refine ⟨by show x ≤ b; simp only at g1; omega, ?_, ?_, ?_⟩
            · intro m m1 m2
              by_cases hm : m = x
              · simp [hm]
              · exact List.mem_cons_of_mem _ (g2 m (by simp only at m1 ⊢; omega) m2)
            · intro hm
              rcases List.mem_cons.1 hm with e | e
              · simp only at e; omega
              · have := hlt _ e; simp only at this; omega
            · intro hm
              rcases List.mem_cons.1 hm with e | e
              · simp only at e g1; omega
              · exact g4 e
          · obtain ⟨g1, g2, g3, g4⟩ := h1 r (List.mem_cons_of_mem _ e)
            have := hsa r e
            refine ⟨g1, fun m m1 m2 => List.mem_cons_of_mem _ (g2 m m1 m2), ?_, ?_⟩
            · intro hm
              rcases List.mem_cons.1 hm with e | e
              · omega
              · exact g3 e
            · intro hm
              rcases List.mem_cons.1 hm with e | e
              · omega
              · exact g4 e
        · intro n hn hn1
          rcases List.mem_cons.1 hn with e | e
          · subst e; exact ⟨b, by simp⟩
          · obtain ⟨z, hz⟩ := h2 n e (fun h => hn1 (List.mem_cons_of_mem _ h))
            rcases List.mem_cons.1 hz with e' | e'
            · injection e' with e1 _
              exact absurd (by rw [e1, hax]; simp) hn1
            · exact ⟨z, List.mem_cons_of_mem _ e'⟩
      · rw [if_neg hax]
        refine ⟨List.pairwise_cons.2 ⟨fun r hr => by
          rcases List.mem_cons.1 hr with e | e
          · subst e; exact hxa
          · have := hsa r e; show x < r.1; omega, hs⟩, ?_, ?_⟩
        · intro r hrr
          rcases List.mem_cons.1 hrr with e | e
          · subst e
            refine ⟨Int.le_refl _, fun m m1 m2 => ?_, ?_, ?_⟩
            · have : m = x := by simp only at m1 m2; omega
              simp [this]
            · intro hm
              rcases List.mem_cons.1 hm with e | e
              · simp only at e; omega
              · have := hlt _ e; simp only at this; omega
            · intro hm
              rcases List.mem_cons.1 hm with e | e
              · simp only at e; omega
              · have := hmin _ e; simp only at this; omega
          · obtain ⟨g1, g2, g3, g4⟩ := h1 r e
            have hra : a ≤ r.1 := by
              rcases List.mem_cons.1 e with e | e
              · subst e; exact Int.le_refl _
              · have := hsa r e; omega
            refine ⟨g1, fun m m1 m2 => List.mem_cons_of_mem _ (g2 m m1 m2), ?_, ?_⟩
            · intro hm
              rcases List.mem_cons.1 hm with e | e
              · omega
              · exact g3 e
            · intro hm
              rcases List.mem_cons.1 hm with e | e
              · omega
              · exact g4 e
        · intro n hn hn1
          rcases List.mem_cons.1 hn with e | e
          · subst e; exact ⟨n, by simp⟩
          · obtain ⟨z, hz⟩ := h2 n e (fun h => hn1 (List.mem_cons_of_mem _ h))
            exact ⟨z, List.mem_cons_of_mem _ hz⟩

/-- the runs that begin below n -/
def runsBelow (l : List Int) (n : Int) : List (Int × Int) := (runsOf l).filter fun r => decide (r.1 < n)
theorem filter_below_step {rs : List (Int × Int)} (hs : rs.Pairwise (fun r s => r.1 < s.1)) (n : Int) :
    rs.filter (fun r => decide (r.1 < n + 1)) = rs.filter (fun r => decide (r.1 < n)) ++ rs.filter (fun r => decide (r.1 = n)) := by
  induction rs with
  | nil => rfl
  | cons r rs ih =>
    have ih' := ih (List.pairwise_cons.1 hs).2
    have hr := (List.pairwise_cons.1 hs).1
    rw [List.filter_cons, List.filter_cons, List.filter_cons, ih']
    by_cases h1 : r.1 < n
    · have h2 : r.1 < n + 1 := by omega
      have h3 : ¬ r.1 = n := by omega
      simp [h1, h2, h3]
    · have e0 : rs.filter (fun r => decide (r.1 < n)) = [] := by
        rw [List.filter_eq_nil_iff]
        intro s hs'
        have := hr s hs'
        simp; omega
      by_cases h3 : r.1 = n
      · rw [e0]
        simp [h3]; omega
      · have h2 : ¬ r.1 < n + 1 := by omega
        have h1' : ¬ r.1 < n := by omega
        simp [h1', h2, h3, e0]
theorem filter_at {rs : List (Int × Int)} (hs : rs.Pairwise (fun r s => r.1 < s.1)) {n z : Int} (h : (n, z) ∈ rs) : rs.filter (fun r => decide (r.1 = n)) = [(n, z)] := by
  induction rs with
  | nil => cases h
  | cons r rs ih =>
    have hr := (List.pairwise_cons.1 hs).1
    rw [List.filter_cons]
    rcases List.mem_cons.1 h with e | e
    · subst e
      have e0 : rs.filter (fun r => decide (r.1 = n)) = [] := by
        rw [List.filter_eq_nil_iff]
        intro s hs'
        have := hr s hs'
        simp at this ⊢; omega
      simp [e0]
    · have := hr _ e
      have h3 : ¬ r.1 = n := by simp at this; omega
      simp only [h3, decide_false, Bool.false_eq_true, if_false]
      exact ih (List.pairwise_cons.1 hs).2 e
theorem runsBelow_zero {l : List Int} (h : rightB l = true) : runsBelow l 0 = [] := by
  unfold runsBelow
  rw [List.filter_eq_nil_iff]
  intro r hr
  obtain ⟨g1, g2, -, -⟩ := (runs_ok l h).2.1 r hr
  have := right_mem h r.1 (g2 r.1 (Int.le_refl _) g1)
  simp; omega
theorem runsBelow_all {l : List Int} (h : rightB l = true) : runsBelow l 256 = runsOf l := by
  unfold runsBelow
  rw [List.filter_eq_self]
  intro r hr
  obtain ⟨g1, g2, -, -⟩ := (runs_ok l h).2.1 r hr
  have := right_mem h r.1 (g2 r.1 (Int.le_refl _) g1)
  simp; omega
/-- n does not begin a run -/
theorem runsBelow_skip {l : List Int} (h : rightB l = true) {n : Int} (hn : n ∉ l ∨ n - 1 ∈ l) : runsBelow l (n + 1) = runsBelow l n := by
  unfold runsBelow
  rw [filter_below_step (runs_ok l h).1]
  have : (runsOf l).filter (fun r => decide (r.1 = n)) = [] := by
    rw [List.filter_eq_nil_iff]
    intro r hr
    obtain ⟨g1, g2, g3, -⟩ := (runs_ok l h).2.1 r hr
    simp only [decide_eq_true_eq]
    intro e
    subst e
    rcases hn with hn | hn
    · exact hn (g2 r.1 (Int.le_refl _) g1)
    · exact g3 hn
  rw [this, List.append_nil]
/-- n begins a run, which goes on to z -/
theorem runsBelow_take {l : List Int} (h : rightB l = true) {n z : Int} (hn : n ∈ l) (hn1 : n - 1 ∉ l) (hnz : n ≤ z) (hz : ∀ m, n ≤ m → m ≤ z → m ∈ l) (hz1 : z + 1 ∉ l) : runsBelow l (n + 1) = runsBelow l n ++ [(n, z)] := by
  obtain ⟨h1, h2, h3⟩ := runs_ok l h
  obtain ⟨z', hz'⟩ := h3 n hn hn1
  obtain ⟨g1, g2, g3, g4⟩ := h2 _ hz'
  have e : z' = z := by
    simp only at g1 g2 g4
    by_cases hl : z' < z
    · exact absurd (hz (z' + 1) (by omega) (by omega)) g4
    · by_cases hg : z < z'
      · exact absurd (g2 (z + 1) (by omega) (by omega)) hz1
      · omega
  subst e
  unfold runsBelow
  rw [filter_below_step h1, filter_at h1 hz']

end Go.Proofs.YtgifhbjcelkjkaaDoor
