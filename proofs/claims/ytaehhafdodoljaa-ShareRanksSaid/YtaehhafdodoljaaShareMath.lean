/- Layer 15 (share) as plain functions: amounts faded, added, shares, the order, the bonus; and plain facts of them. Nothing of the program stands here. -/
import Derived.Test.YtaehhafdodoljaaFloatMath
namespace Go.Proofs.Ytaehhafdodoljaa
open Ieee

/-- somebody's use: floating-point words by their bits -/
structure Us where
  who : Int
  had : Nat
  weight : Nat
def us0 : Us := ⟨0, 0, 0⟩
/-- halved so often -/
def fadeN : Nat → Nat → Nat
  | a, 0 => a
  | a, n + 1 => fadeN (halfF a) n
/-- so many halves count -/
def halvesN (h : Int) : Nat := (min h 4096).toNat
def fadeV (x : Nat) (h : Int) : Nat := fadeN (cleanF x) (halvesN h)
/-- an amount more -/
def plusF (s x : Nat) : Nat := cleanF (nearF (valF s + valF (cleanF x)) 0)
def sumF (l : List Nat) : Nat := l.foldl plusF 0
def shareU (u : Us) : Nat := shareF (cleanF u.had) (cleanF u.weight)
/-- does place a stand ahead of place b? -/
def aheadU (l : List Us) (a b : Nat) : Bool :=
  if shareU (l.getD a us0) ≠ shareU (l.getD b us0) then decide (shareU (l.getD a us0) < shareU (l.getD b us0))
  else if (l.getD a us0).who ≠ (l.getD b us0).who then decide ((l.getD a us0).who < (l.getD b us0).who)
  else decide (a < b)
def insU (l : List Us) (i : Nat) : List Nat → List Nat
  | [] => [i]
  | k :: r => if aheadU l i k then i :: k :: r else k :: insU l i r
/-- the places of the first n, in order -/
def ordN (l : List Us) : Nat → List Nat
  | 0 => []
  | n + 1 => insU l n (ordN l n)
def orderU (l : List Us) : List Int := (ordN l l.length).map (Int.ofNat ·)
/-- how many of another one have a greater share than u -/
def othersU (l : List Us) (who : Int) (s : Nat) : Nat := l.countP (fun v => decide (v.who ≠ who) && decide (s < shareU v))
def bonusU (l : List Us) (who : Int) : Int := match l.find? (fun v => decide (v.who = who)) with
  | none => 0
  | some u => othersU l who (shareU u)

section
variable {l : List Us} {a b c n : Nat}
theorem fadeN_add : ∀ (a m n : Nat), fadeN (fadeN a m) n = fadeN a (m + n)
  | _, 0, n => by rw [Nat.zero_add]; rfl
  | a, m + 1, n => by rw [show m + 1 + n = (m + n) + 1 by omega]; exact fadeN_add (halfF a) m n
theorem fadeN_le : ∀ (n a : Nat), fadeN a n ≤ a
  | 0, _ => Nat.le_refl _
  | n + 1, a => Nat.le_trans (fadeN_le n (halfF a)) (halfF_le a)
theorem fadeN_succ (a n : Nat) : fadeN a (n + 1) = halfF (fadeN a n) := (fadeN_add a n 1).symm
theorem fadeV_lt (x : Nat) (h : Int) : fadeV x h < 9218868437227405312 := Nat.lt_of_le_of_lt (fadeN_le _ _) (cleanF_lt x)
theorem fadeV_none {x : Nat} {h : Int} (hh : h ≤ 0) : fadeV x h = cleanF x := by
  unfold fadeV halvesN
  rw [show (min h 4096).toNat = 0 by omega]; rfl
theorem fadeV_twice {x : Nat} {g h : Int} (h1 : 0 ≤ g) (h2 : 0 ≤ h) (h3 : g + h ≤ 4096) : fadeV (fadeV x g) h = fadeV x (g + h) := by
  have e := cleanF_self (fadeV_lt x g)
  show fadeN (cleanF (fadeV x g)) (halvesN h) = _
  rw [e]
  unfold fadeV
  rw [fadeN_add]
  congr 1
  unfold halvesN
  omega
theorem plusF_lt (s x : Nat) : plusF s x < 9218868437227405312 := cleanF_lt _
theorem plusF_ge {s : Nat} (x : Nat) (hs : s < 9218868437227405312) : s ≤ plusF s x ∧ cleanF x ≤ plusF s x := by
  have hx := cleanF_lt x
  have h1 := le_near (r := s) (N := valF s + valF (cleanF x)) (d := 0) (by rw [Nat.pow_zero, Nat.mul_one]; exact Nat.le_add_right _ _)
  have h2 := le_near (r := cleanF x) (N := valF s + valF (cleanF x)) (d := 0) (by rw [Nat.pow_zero, Nat.mul_one]; exact Nat.le_add_left _ _)
  rw [Nat.min_eq_left (Nat.le_of_lt hs)] at h1
  rw [Nat.min_eq_left (Nat.le_of_lt hx)] at h2
  exact ⟨cleanF_ge hs h1 (near_inf _ _), cleanF_ge hx h2 (near_inf _ _)⟩
theorem foldl_plus_lt : ∀ (l : List Nat) (s : Nat), s < 9218868437227405312 → l.foldl plusF s < 9218868437227405312
  | [], _, h => h
  | x :: r, s, _ => foldl_plus_lt r (plusF s x) (plusF_lt s x)
theorem foldl_plus_ge : ∀ (l : List Nat) (s : Nat), s < 9218868437227405312 → s ≤ l.foldl plusF s ∧ ∀ x ∈ l, cleanF x ≤ l.foldl plusF s
  | [], _, _ => ⟨Nat.le_refl _, fun _ hx => by cases hx⟩
  | y :: r, s, h => by
    obtain ⟨h1, h2⟩ := foldl_plus_ge r (plusF s y) (plusF_lt s y)
    obtain ⟨h3, h4⟩ := plusF_ge y h
    refine ⟨Nat.le_trans h3 h1, fun x hx => ?_⟩
    rcases List.mem_cons.1 hx with rfl | hx
    · exact Nat.le_trans h4 h1
    · exact h2 x hx
theorem sumF_lt (l : List Nat) : sumF l < 9218868437227405312 := foldl_plus_lt l 0 (by decide)
theorem sumF_ge (l : List Nat) : ∀ x ∈ l, cleanF x ≤ sumF l := (foldl_plus_ge l 0 (by decide)).2
theorem shareU_le (u : Us) : shareU u ≤ 9218868437227405312 := shareF_le _ _ (cleanF_lt _) (cleanF_lt _)

theorem ahead_self : aheadU l a a = false := by unfold aheadU; simp
theorem ahead_not (h : aheadU l a b = true) : aheadU l b a = false := by
  unfold aheadU at *
  generalize shareU (l.getD a us0) = x at *
  generalize shareU (l.getD b us0) = y at *
  generalize (l.getD a us0).who = p at *
  generalize (l.getD b us0).who = q at *
  by_cases h1 : x = y
  · subst h1
    by_cases h2 : p = q
    · subst h2; simp at *; omega
    · simp [h2, Ne.symm h2] at *; omega
  · simp [h1, Ne.symm h1] at *; omega
theorem ahead_tri (h : a ≠ b) : aheadU l a b = true ∨ aheadU l b a = true := by
  unfold aheadU
  generalize shareU (l.getD a us0) = x at *
  generalize shareU (l.getD b us0) = y at *
  generalize (l.getD a us0).who = p at *
  generalize (l.getD b us0).who = q at *
  by_cases h1 : x = y
  · subst h1
    by_cases h2 : p = q
    · subst h2; simp; omega
    · simp [h2, Ne.symm h2]; omega
  · simp [h1, Ne.symm h1]; omega
theorem ahead_trans (h : aheadU l a b = true) (h' : aheadU l b c = true) : aheadU l a c = true := by
  unfold aheadU at *
  generalize shareU (l.getD a us0) = x at *
  generalize shareU (l.getD b us0) = y at *
  generalize shareU (l.getD c us0) = z at *
  generalize (l.getD a us0).who = p at *
  generalize (l.getD b us0).who = q at *
  generalize (l.getD c us0).who = r at *
  by_cases h1 : x = y
  · subst h1
    by_cases h2 : x = z
    · subst h2
      by_cases h3 : p = q
      · subst h3
        by_cases h4 : p = r
        · subst h4; simp at *; omega
        · simp [h4] at *; omega
      · by_cases h4 : q = r
        · subst h4; simp [h3] at *; omega
        · simp [h3, h4] at *
          have : p ≠ r := by omega
          simp [this]; omega
    · simp [h2] at *; omega
  · by_cases h2 : y = z
    · subst h2; simp [h1] at *; omega
    · simp [h1, h2] at *
      have : x ≠ z := by omega
      simp [this]; omega
theorem ins_perm (i : Nat) : ∀ (r : List Nat), (insU l i r).Perm (i :: r)
  | [] => List.Perm.refl _
  | k :: r => by
    unfold insU
    split
    · exact List.Perm.refl _
    · exact ((ins_perm i r).cons k).trans (List.Perm.swap i k r)
theorem ins_sorted (i : Nat) : ∀ (r : List Nat), r.Pairwise (fun a b => aheadU l a b = true) → i ∉ r → (insU l i r).Pairwise (fun a b => aheadU l a b = true)
  | [], _, _ => by unfold insU; exact List.pairwise_singleton _ _
  | k :: r, h, hi => by
    obtain ⟨h1, h2⟩ := List.pairwise_cons.1 h
    unfold insU
    split
    · next h3 =>
      refine List.pairwise_cons.2 ⟨fun b hb => ?_, h⟩
      rcases List.mem_cons.1 hb with rfl | hb
      · exact h3
      · exact ahead_trans h3 (h1 b hb)
    · next h3 =>
      refine List.pairwise_cons.2 ⟨fun b hb => ?_, ins_sorted i r h2 (fun h => hi (List.mem_cons_of_mem _ h))⟩
      rcases List.mem_cons.1 ((ins_perm i r).mem_iff.1 hb) with rfl | hb
      · rcases ahead_tri (l := l) (a := k) (b := b) (fun e => hi (by rw [e]; exact List.mem_cons_self)) with h4 | h4
        · exact h4
        · exact absurd h4 h3
      · exact h1 b hb
theorem ord_perm (l : List Us) : ∀ n, (ordN l n).Perm (List.range n)
  | 0 => List.Perm.refl _
  | n + 1 => by
    rw [List.range_succ]
    refine (ins_perm n _).trans (((ord_perm l n).cons n).trans ?_)
    exact (List.perm_append_singleton n (List.range n)).symm
theorem ord_sorted (l : List Us) : ∀ n, (ordN l n).Pairwise (fun a b => aheadU l a b = true)
  | 0 => List.Pairwise.nil
  | n + 1 => ins_sorted n _ (ord_sorted l n) (fun h => by
    have := (ord_perm l n).mem_iff.1 h
    rw [List.mem_range] at this
    omega)
theorem ord_length (l : List Us) (n : Nat) : (ordN l n).length = n := by rw [(ord_perm l n).length_eq, List.length_range]
/-- how many of the first n are ahead -/
def rankU (l : List Us) (n i : Nat) : Nat := (List.range n).countP (fun k => aheadU l k i)
/-- in a sorted list of the first n each stands behind as many as are ahead of it -/
theorem sorted_rank {o : List Nat} (hp : o.Perm (List.range n)) (hs : o.Pairwise (fun a b => aheadU l a b = true)) {j i : Nat} (hj : o[j]? = some i) : rankU l n i = j := by
  have hlt := (List.getElem?_eq_some_iff.1 hj).1
  have hji := (List.getElem?_eq_some_iff.1 hj).2
  unfold rankU
  rw [← hp.countP_eq, ← List.take_append_drop j o, List.countP_append]
  have h1 : (o.take j).countP (fun k => aheadU l k i) = j := by
    rw [List.countP_eq_length.2]
    · rw [List.length_take]; omega
    · intro x hx
      obtain ⟨m, hm, rfl⟩ := List.getElem_of_mem hx
      rw [List.length_take] at hm
      rw [List.getElem_take, ← hji]
      exact List.pairwise_iff_getElem.1 hs m j (by omega) hlt (by omega)
  have h2 : (o.drop j).countP (fun k => aheadU l k i) = 0 := by
    rw [List.countP_eq_zero]
    intro x hx
    obtain ⟨m, hm, rfl⟩ := List.getElem_of_mem hx
    rw [List.length_drop] at hm
    rw [List.getElem_drop]
    by_cases hm0 : m = 0
    · subst hm0
      simp only [Nat.add_zero, hji, ahead_self]; decide
    · have := List.pairwise_iff_getElem.1 hs j (j + m) hlt (by omega) (by omega)
      rw [hji] at this
      rw [ahead_not this]; decide
  omega
/-- a list that has each of the first n at its rank is their order -/
theorem ord_unique {o : List Nat} (hl : o.length = n) (h : ∀ i, i < n → o[rankU l n i]? = some i) : o = ordN l n := by
  refine List.ext_getElem? (fun j => ?_)
  by_cases hj : j < n
  · obtain ⟨i, hi⟩ : ∃ i, (ordN l n)[j]? = some i := ⟨_, List.getElem?_eq_getElem (by rw [ord_length]; exact hj)⟩
    have hr := sorted_rank (ord_perm l n) (ord_sorted l n) hi
    have hin : i < n := List.mem_range.1 ((ord_perm l n).mem_iff.1 (List.mem_of_getElem? hi))
    have := h i hin
    rw [hr] at this
    rw [hi, this]
  · rw [List.getElem?_eq_none (by omega), List.getElem?_eq_none (by rw [ord_length]; omega)]
/-- a sorted list of the first n is their order -/
theorem ord_sorted_unique {o : List Nat} (hp : o.Perm (List.range n)) (hs : o.Pairwise (fun a b => aheadU l a b = true)) : o = ordN l n := by
  refine ord_unique (by rw [hp.length_eq, List.length_range]) (fun i hi => ?_)
  obtain ⟨j, hj⟩ := List.getElem?_of_mem (hp.mem_iff.2 (List.mem_range.2 hi))
  rw [sorted_rank hp hs hj]
  exact hj
theorem rank_lt (hi : a < n) : rankU l n a < n := by
  obtain ⟨j, hj⟩ := List.getElem?_of_mem ((ord_perm l n).mem_iff.2 (List.mem_range.2 hi))
  rw [sorted_rank (ord_perm l n) (ord_sorted l n) hj]
  have := (List.getElem?_eq_some_iff.1 hj).1
  rw [ord_length] at this
  exact this
theorem rank_inj (ha : a < n) (hb : b < n) (h : rankU l n a = rankU l n b) : a = b := by
  obtain ⟨i, hi⟩ := List.getElem?_of_mem ((ord_perm l n).mem_iff.2 (List.mem_range.2 ha))
  obtain ⟨j, hj⟩ := List.getElem?_of_mem ((ord_perm l n).mem_iff.2 (List.mem_range.2 hb))
  rw [sorted_rank (ord_perm l n) (ord_sorted l n) hi, sorted_rank (ord_perm l n) (ord_sorted l n) hj] at h
  subst h
  rw [hi] at hj
  exact Option.some.inj hj
/-- no share is less than one ahead -/
theorem ord_shares {i j x y : Nat} (hx : (ordN l n)[i]? = some x) (hy : (ordN l n)[j]? = some y) (hij : i < j) : shareU (l.getD x us0) ≤ shareU (l.getD y us0) := by
  have h1 := (List.getElem?_eq_some_iff.1 hx).2
  have h2 := (List.getElem?_eq_some_iff.1 hy).2
  have h := List.pairwise_iff_getElem.1 (ord_sorted l n) i j (List.getElem?_eq_some_iff.1 hx).1 (List.getElem?_eq_some_iff.1 hy).1 hij
  rw [h1, h2] at h
  unfold aheadU at h
  by_cases e : shareU (l.getD x us0) = shareU (l.getD y us0)
  · omega
  · rw [if_pos e] at h
    exact Nat.le_of_lt (of_decide_eq_true h)
theorem ord_nodup (l : List Us) (n : Nat) : (ordN l n).Nodup := (ord_perm l n).nodup_iff.2 List.nodup_range
theorem orderU_length (l : List Us) : (orderU l).length = l.length := by unfold orderU; rw [List.length_map, ord_length]

theorem bonus_nonneg (l : List Us) (who : Int) : 0 ≤ bonusU l who := by
  unfold bonusU; split
  · exact Int.le_refl _
  · exact Int.natCast_nonneg _
theorem others_le (l : List Us) (who : Int) (s : Nat) : othersU l who s ≤ l.countP (fun v => decide (v.who ≠ who)) := by
  unfold othersU
  exact List.countP_mono_left (fun v _ h => by
    rw [Bool.and_eq_true] at h; exact h.1)
theorem bonus_le (l : List Us) (who : Int) : bonusU l who ≤ (l.countP (fun v => decide (v.who ≠ who)) : Nat) := by
  unfold bonusU; split
  · exact Int.natCast_nonneg _
  · exact Int.ofNat_le.2 (others_le l who _)
/-- one more of this Who, with no share, at the end -/
theorem bonus_more (l : List Us) (who : Int) : bonusU l who ≤ bonusU (l ++ [⟨who, 0, 0⟩]) who := by
  unfold bonusU
  rw [List.find?_append]
  cases h : l.find? (fun v => decide (v.who = who)) with
  | none => 
    simp only [Option.none_or, List.find?_cons, decide_true]
    exact Int.natCast_nonneg _
  | some u =>
    simp only [Option.some_or]
    refine Int.ofNat_le.2 ?_
    unfold othersU
    rw [List.countP_append]
    exact Nat.le_add_right _ _
end

end Go.Proofs.Ytaehhafdodoljaa
