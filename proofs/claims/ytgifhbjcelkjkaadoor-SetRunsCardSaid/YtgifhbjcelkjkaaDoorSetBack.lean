/- Plain facts: a set's text is read as the set; a text that is read is the text of what was read; no condition. -/
import Derived.Test.YtgifhbjcelkjkaaDoorSetParse
namespace Go.Proofs.YtgifhbjcelkjkaaDoor

theorem rangeL_cons {a b : Nat} (h : a ≤ b) : rangeL a b = (a : Int) :: rangeL (a + 1) b := by
  unfold rangeL
  have e : b + 1 - a = (b + 1 - (a + 1)) + 1 := by omega
  rw [e, List.range'_succ]; rfl
theorem rangeL_nil {a b : Nat} (h : b < a) : rangeL a b = [] := by
  unfold rangeL
  have e : b + 1 - a = 0 := by omega
  rw [e]; rfl
theorem mem_rangeL {a b : Nat} {n : Int} : n ∈ rangeL a b ↔ (a : Int) ≤ n ∧ n ≤ b := by
  unfold rangeL
  rw [List.mem_map]
  constructor
  · rintro ⟨m, hm, rfl⟩
    have := List.mem_range'_1.1 hm
    omega
  · intro h
    exact ⟨n.toNat, List.mem_range'_1.2 (by omega), by omega⟩
theorem right_range : ∀ (k a b : Nat) (l : List Int), b + 1 - a = k → b ≤ 255 → rightB l = true → (∀ n ∈ l, (b : Int) < n) → rightB (rangeL a b ++ l) = true
  | 0, a, b, l, hk, _, hl, _ => by rw [rangeL_nil (by omega)]; exact hl
  | k + 1, a, b, l, hk, hb, hl, hlt => by
    have ih := right_range k (a + 1) b l (by omega) hb hl hlt
    rw [rangeL_cons (by omega), List.cons_append]
    refine right_cons (by omega) ih fun y hy => ?_
    rcases List.mem_append.1 hy with e | e
    · have := mem_rangeL.1 e; omega
    · have := hlt y e; omega
theorem runsOf_range : ∀ (k a b : Nat) (l : List Int), b + 1 - a = k + 1 → (∀ n ∈ l, (b : Int) + 2 ≤ n) → runsOf (rangeL a b ++ l) = ((a : Int), (b : Int)) :: runsOf l
  | 0, a, b, l, hk, hl => by
    have hab : a = b := by omega
    subst hab
    rw [rangeL_cons (by omega), rangeL_nil (by omega)]
    show runsOf ((a : Int) :: l) = _
    rw [runsOf]
    cases h : runsOf l with
    | nil => rfl
    | cons r rs =>
      obtain ⟨c, d⟩ := r
      obtain ⟨t, ht⟩ := runsOf_head h
      have := hl c (by rw [ht]; simp)
      simp only
      rw [if_neg (by omega)]
  | k + 1, a, b, l, hk, hl => by
    have ih := runsOf_range k (a + 1) b l (by omega) hl
    rw [rangeL_cons (by omega), List.cons_append, runsOf, ih]
    simp

theorem item_nat (a b : Nat) : item ((a : Int), (b : Int)) = if a < b then Lib.decDigits a ++ 45 :: Lib.decDigits b else Lib.decDigits a := by
  unfold item
  simp only [itoa_nat]
  by_cases h : a < b
  · rw [if_pos h, if_pos (by omega)]
  · rw [if_neg h, if_neg (by omega)]
theorem digs_free {l : List UInt8} (h : l.all isDig = true) {c : UInt8} (hc : isDig c = false) : c ∉ l := by
  intro hm
  have := List.all_eq_true.1 h c hm
  rw [hc] at this; cases this
theorem dec_free (v : Nat) {c : UInt8} (hc : isDig c = false) : c ∉ Lib.decDigits v := digs_free (decDigits_facts v).2.1 hc
theorem rrun_item {a b : Nat} (h : a ≤ b) (hb : b < 256) : rrun (item ((a : Int), (b : Int))) = some (a, b) := by
  rw [item_nat]
  unfold rrun
  by_cases hab : a < b
  · rw [if_pos hab, cutD_hit (dec_free a rfl)]
    simp only [rn_itoa (show a < 256 by omega), rn_itoa hb, if_pos hab]
  · have : a = b := by omega
    subst this
    rw [if_neg hab, cutD_free (dec_free a rfl)]
    simp only [rn_itoa hb, Option.map_some]
theorem cutD_eq (r : List UInt8) : (cutD r = (r, none) ∧ (45 : UInt8) ∉ r) ∨ ∃ h t, r = h ++ 45 :: t ∧ (45 : UInt8) ∉ h ∧ cutD r = (h, some t) := by
  rcases index_one 45 r with ⟨_, h⟩ | ⟨a, t, rfl, h, _⟩
  · exact .inl ⟨cutD_free h, h⟩
  · exact .inr ⟨a, t, rfl, h, cutD_hit h⟩
theorem rrun_some {r : List UInt8} {a b : Nat} (h : rrun r = some (a, b)) : a ≤ b ∧ b < 256 ∧ r = item ((a : Int), (b : Int)) := by
  rw [item_nat]
  unfold rrun at h
  rcases cutD_eq r with ⟨e, _⟩ | ⟨hd, t, rfl, _, e⟩
  · rw [e] at h
    simp only [Option.map_eq_some_iff] at h
    obtain ⟨v, hv, h2⟩ := h
    injection h2 with h2 h3
    subst h2; subst h3
    obtain ⟨h4, h5⟩ := rn_some hv
    exact ⟨Nat.le_refl _, h5, by rw [if_neg (by omega)]; exact h4⟩
  · rw [e] at h
    simp only at h
    cases h1 : rn hd with
    | none => rw [h1] at h; cases h
    | some x =>
      cases h2 : rn t with
      | none => rw [h1, h2] at h; cases h
      | some y =>
        rw [h1, h2] at h
        simp only at h
        split at h
        · rename_i hxy
          injection h with h
          injection h with h3 h4
          subst h3; subst h4
          obtain ⟨h5, h6⟩ := rn_some h1
          obtain ⟨h7, h8⟩ := rn_some h2
          exact ⟨by omega, h8, by rw [if_pos hxy, ← h5, ← h7]⟩
        · cases h

theorem pruns_some : ∀ (rs : List (List UInt8)) (least : Nat) (l : List Int), pruns rs least = some l → rightB l = true ∧ (∀ n ∈ l, (least : Int) ≤ n) ∧ rs = (runsOf l).map item
  | [], _, l, h => by
    injection h with h
    subst h
    exact ⟨by simp [rightB], by simp, rfl⟩
  | r :: rs, least, l, h => by
    unfold pruns at h
    cases h1 : rrun r with
    | none => rw [h1] at h; cases h
    | some ab =>
      obtain ⟨a, b⟩ := ab
      rw [h1] at h
      simp only at h
      split at h
      · cases h
      · rename_i hl
        rw [Option.map_eq_some_iff] at h
        obtain ⟨l', hl', rfl⟩ := h
        obtain ⟨g1, g2, g3⟩ := pruns_some rs (b + 2) l' hl'
        obtain ⟨k1, k2, k3⟩ := rrun_some h1
        have hlt : ∀ n ∈ l', (b : Int) + 2 ≤ n := fun n hn => by have := g2 n hn; omega
        refine ⟨right_range _ a b l' rfl (by omega) g1 (fun n hn => by have := hlt n hn; omega), ?_, ?_⟩
        · intro n hn
          rcases List.mem_append.1 hn with e | e
          · have := mem_rangeL.1 e; omega
          · have := hlt n e; omega
        · rw [runsOf_range (b - a) a b l' (by omega) hlt, List.map_cons, ← g3, ← k3]

/-- the numbers of runs, one after the other -/
def Good : List (Int × Int) → Nat → Prop
  | [], _ => True
  | r :: rs, least => ∃ a b : Nat, r = ((a : Int), (b : Int)) ∧ least ≤ a ∧ a ≤ b ∧ b < 256 ∧ Good rs (b + 2)
def flat : List (Int × Int) → List Int
  | [] => []
  | r :: rs => rangeL r.1.toNat r.2.toNat ++ flat rs
theorem pruns_items : ∀ (rs : List (Int × Int)) (least : Nat), Good rs least → pruns (rs.map item) least = some (flat rs)
  | [], _, _ => rfl
  | _ :: rs, least, ⟨a, b, e, h1, h2, h3, h4⟩ => by
    subst e
    have ih := pruns_items rs (b + 2) h4
    rw [List.map_cons, pruns, rrun_item h2 h3]
    simp only
    rw [if_neg (by omega), ih]
    simp [flat]
theorem good_runs : ∀ l : List Int, rightB l = true → Good (runsOf l) (l.getD 0 0).toNat ∧ flat (runsOf l) = l
  | [], _ => ⟨trivial, rfl⟩
  | x :: t, h => by
    obtain ⟨ih1, ih2⟩ := good_runs t (right_tail h)
    have hx := right_head h
    obtain ⟨y, rfl⟩ : ∃ y : Nat, x = y := ⟨x.toNat, by omega⟩
    rw [runsOf]
    cases hr : runsOf t with
    | nil =>
      have ht := runsOf_nil.1 hr
      subst ht
      refine ⟨⟨y, y, rfl, by simp, Nat.le_refl _, by omega, trivial⟩, ?_⟩
      simp only [flat, Int.toNat_natCast]
      rw [rangeL_cons (Nat.le_refl _), rangeL_nil (by omega)]; rfl
    | cons r rs =>
      obtain ⟨t', ht⟩ := runsOf_head (a := r.1) (b := r.2) hr
      rw [hr] at ih1 ih2
      obtain ⟨a, b, e, h1, h2, h3, h4⟩ := ih1
      subst e
      simp only at ht
      have hya : (y : Int) < a := right_below h a (by rw [ht]; simp)
      simp only
      by_cases hax : (a : Int) = y + 1
      · rw [if_pos hax]
        refine ⟨⟨y, b, rfl, by simp, by omega, h3, h4⟩, ?_⟩
        simp only [flat, Int.toNat_natCast] at ih2 ⊢
        rw [rangeL_cons (show y ≤ b by omega), ← show a = y + 1 by omega, List.cons_append, ih2]
      · rw [if_neg hax]
        refine ⟨⟨y, y, rfl, by simp, Nat.le_refl _, by omega, ⟨a, b, rfl, by omega, h2, h3, h4⟩⟩, ?_⟩
        simp only [flat, Int.toNat_natCast] at ih2 ⊢
        rw [rangeL_cons (Nat.le_refl _), rangeL_nil (by omega)]
        show (y : Int) :: (rangeL a b ++ flat rs) = _
        rw [ih2]
theorem good_less {rs : List (Int × Int)} {m n : Nat} (h : Good rs m) (hn : n ≤ m) : Good rs n := by
  cases rs with
  | nil => trivial
  | cons r rs =>
    obtain ⟨a, b, e, h1, h2⟩ := h
    exact ⟨a, b, e, by omega, h2⟩
theorem item_free {r : Int × Int} {a b : Nat} (e : r = ((a : Int), (b : Int))) : (44 : UInt8) ∉ item r := by
  subst e
  rw [item_nat]
  split
  · intro h
    rcases List.mem_append.1 h with h | h
    · exact dec_free a rfl h
    · rcases List.mem_cons.1 h with h | h
      · cases h
      · exact dec_free b rfl h
  · exact dec_free a rfl
theorem good_free : ∀ (rs : List (Int × Int)) (least : Nat), Good rs least → ∀ x ∈ rs.map item, (44 : UInt8) ∉ x
  | [], _, _ => by simp
  | _ :: rs, _, ⟨a, b, e, _, _, _, h4⟩ => by
    intro x hx
    rcases List.mem_cons.1 hx with h | h
    · rw [h]; exact item_free e
    · exact good_free rs _ h4 x h
theorem dec_length {v : Nat} (hv : v < 256) : (Lib.decDigits v).length ≤ 3 := by
  rw [Lib.decDigits]
  split
  · simp
  · rw [Lib.decDigits]
    split
    · simp
    · rw [Lib.decDigits, dif_pos (by omega)]; simp
theorem joinC_length : ∀ (rs : List (Int × Int)) (least : Nat), Good rs least → (joinC (rs.map item)).length ≤ 8 * rs.length
  | [], _, _ => by simp [joinC]
  | r :: rs, _, ⟨a, b, e, _, h2, h3, h4⟩ => by
    have ih := joinC_length rs _ h4
    have hi : (item r).length ≤ 7 := by
      subst e
      rw [item_nat]
      have ha := dec_length (show a < 256 by omega)
      have hb := dec_length h3
      split
      · simp; omega
      · omega
    cases rs with
    | nil => simp [joinC]; omega
    | cons r2 rs2 =>
      rw [List.map_cons, joinC_cons (by simp), List.length_append, List.length_cons, List.length_cons]
      omega
theorem runs_length : ∀ l : List Int, (runsOf l).length ≤ l.length
  | [] => by simp [runsOf]
  | x :: t => by
    have ih := runs_length t
    rw [runsOf]
    split
    · simp
    · rename_i h; rw [h] at ih
      split
      · simp at ih ⊢; omega
      · simp at ih ⊢; omega
theorem right_length {l : List Int} (h : rightB l = true) : l.length ≤ 256 := by rw [← right_pick h]; exact length_pickL _
theorem show_length {l : List Int} (h : rightB l = true) : (showL l).length ≤ 2048 := by
  have h1 := joinC_length _ _ (good_runs l h).1
  have h2 := runs_length l
  have h3 := right_length h
  unfold showL
  omega
theorem showL_ne {l : List Int} (h : l ≠ []) : showL l ≠ [] := by
  unfold showL
  refine joinC_ne ?_ fun x hx => ?_
  · intro e
    exact h (runsOf_nil.1 (List.map_eq_nil_iff.1 e))
  · obtain ⟨r, _, rfl⟩ := List.mem_map.1 hx
    exact item_ne r

theorem parse_show {l : List Int} (h : rightB l = true) : parseL (showL l) = (l, 0) := by
  have hlen := show_length h
  unfold parseL
  rw [if_neg (by omega)]
  by_cases hl : l = []
  · subst hl
    rw [show showL [] = [] from rfl]; rfl
  · rw [if_neg (showL_ne hl)]
    obtain ⟨g1, g2⟩ := good_runs l h
    have e : splitC (showL l) = (runsOf l).map item := splitC_joinC (fun e => hl (runsOf_nil.1 (List.map_eq_nil_iff.1 e))) (good_free _ _ g1)
    rw [e, pruns_items _ 0 (good_less g1 (Nat.zero_le _)), g2]
theorem parseL_ok {t : List UInt8} (h : (parseL t).2 = 0) : rightB (parseL t).1 = true ∧ showL (parseL t).1 = t := by
  unfold parseL at h ⊢
  split at h
  · cases h
  · rename_i h1
    rw [if_neg h1]
    split at h
    · rename_i h2
      subst h2
      rw [if_pos rfl]
      exact ⟨by simp [rightB], rfl⟩
    · rename_i h2
      rw [if_neg h2]
      split at h
      · cases h
      · rename_i l hl
        obtain ⟨g1, -, g3⟩ := pruns_some _ _ _ hl
        refine ⟨g1, ?_⟩
        show joinC ((runsOf l).map item) = t
        rw [← g3, joinC_splitC]
theorem parseL_not {t : List UInt8} (h : (parseL t).2 ≠ 0) : (parseL t).1 = [] := by
  unfold parseL at h ⊢
  split
  · rfl
  · rename_i h1
    rw [if_neg h1] at h
    split
    · rfl
    · rename_i h2
      rw [if_neg h2] at h
      split
      · rfl
      · rename_i l hl
        rw [hl] at h
        exact absurd rfl h

end Go.Proofs.YtgifhbjcelkjkaaDoor
