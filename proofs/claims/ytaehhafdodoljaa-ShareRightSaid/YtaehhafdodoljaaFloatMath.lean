/- Plain facts about floating-point words that bear no sign: their worth, the nearest word, order, sums, halves, quotients. Nothing of the program stands here. 4503599627370496 is 2 ^ 52, 9218868437227405312 the word of infinity. -/
import Ieee.Arith
namespace Go.Proofs.Ytaehhafdodoljaa
open Ieee

/-- what a rung is worth, in units of the least place -/
def valF (r : Nat) : Nat := if r < 4503599627370496 then r else (4503599627370496 + r % 4503599627370496) * 2 ^ (r / 4503599627370496 - 1)

theorem pow_pos2 (k : Nat) : 0 < 2 ^ k := Nat.pow_pos (by decide)
theorem valF_at {k c : Nat} (hc : c ≤ 2 * 4503599627370496) (hk : k = 0 ∨ 4503599627370496 ≤ c) : valF (k * 4503599627370496 + c) = c * 2 ^ k := by
  unfold valF
  by_cases h1 : c < 4503599627370496
  · have : k = 0 := by omega
    subst this
    simp [h1]
  · have h0 : ¬ k * 4503599627370496 + c < 4503599627370496 := by omega
    rw [if_neg h0]
    by_cases h2 : c = 2 * 4503599627370496
    · subst h2
      have e1 : (k * 4503599627370496 + 2 * 4503599627370496) / 4503599627370496 = k + 2 := by omega
      have e2 : (k * 4503599627370496 + 2 * 4503599627370496) % 4503599627370496 = 0 := by omega
      rw [e1, e2, show k + 2 - 1 = k + 1 by omega, Nat.pow_succ]
      omega
    · have e1 : (k * 4503599627370496 + c) / 4503599627370496 = k + 1 := by omega
      have e2 : (k * 4503599627370496 + c) % 4503599627370496 = c - 4503599627370496 := by omega
      rw [e1, e2, show k + 1 - 1 = k by omega, show 4503599627370496 + (c - 4503599627370496) = c by omega]
/-- a rung as a place and a number of at most 53 digits -/
theorem rungF (r : Nat) : ∃ k m, r = k * 4503599627370496 + m ∧ m < 2 * 4503599627370496 ∧ (k = 0 ∨ 4503599627370496 ≤ m) ∧ valF r = m * 2 ^ k := by
  by_cases h : r < 4503599627370496
  · exact ⟨0, r, by omega, by omega, Or.inl rfl, by unfold valF; rw [if_pos h]; simp⟩
  · refine ⟨r / 4503599627370496 - 1, 4503599627370496 + r % 4503599627370496, by omega, by omega, Or.inr (by omega), ?_⟩
    unfold valF; rw [if_neg h]
theorem valF_succ (r : Nat) : valF r < valF (r + 1) := by
  obtain ⟨k, m, e, h1, h2, h3⟩ := rungF r
  rw [h3, e, Nat.add_assoc, valF_at (k := k) (c := m + 1) (by omega) (by omega)]
  exact Nat.mul_lt_mul_of_pos_right (Nat.lt_succ_self m) (pow_pos2 k)
theorem valF_lt {r s : Nat} (h : r < s) : valF r < valF s := by
  induction s with
  | zero => omega
  | succ s ih =>
    by_cases e : r = s
    · subst e; exact valF_succ r
    · exact Nat.lt_trans (ih (by omega)) (valF_succ s)
theorem valF_le {r s : Nat} (h : r ≤ s) : valF r ≤ valF s := by
  by_cases e : r = s
  · subst e; exact Nat.le_refl _
  · exact Nat.le_of_lt (valF_lt (by omega))
theorem valF_zero : valF 0 = 0 := by decide

/-- the nearest whole number of N / X, of two the even one -/
def rneF (N X : Nat) : Nat := N / X + (decide (X < 2 * (N % X)) || (X == 2 * (N % X) && N / X % 2 == 1)).toNat
theorem rneF_le (N X : Nat) (hX : 0 < X) : 2 * N ≤ (2 * rneF N X + 1) * X ∧ 2 * rneF N X * X ≤ 2 * N + X := by
  have h1 := Nat.div_add_mod N X
  have h2 := Nat.mod_lt N hX
  have h3 : N = N / X * X + N % X := by rw [Nat.mul_comm]; exact h1.symm
  unfold rneF
  generalize N / X = q at *
  generalize N % X = s at *
  cases hb : (decide (X < 2 * s) || (X == 2 * s && q % 2 == 1)) with
  | true =>
    have : X ≤ 2 * s := by
      simp only [Bool.or_eq_true, decide_eq_true_eq, Bool.and_eq_true, beq_iff_eq] at hb
      omega
    simp only [Bool.toNat_true]
    have e1 : (2 * (q + 1) + 1) * X = 2 * (q * X) + 3 * X := by
      rw [Nat.add_mul, Nat.mul_assoc, Nat.add_mul]; omega
    have e2 : 2 * (q + 1) * X = 2 * (q * X) + 2 * X := by
      rw [Nat.mul_assoc, Nat.add_mul]; omega
    rw [e1, e2]; omega
  | false =>
    have : 2 * s ≤ X := by
      simp only [Bool.or_eq_false_iff, decide_eq_false_iff_not] at hb
      omega
    simp only [Bool.toNat_false, Nat.add_zero]
    have e1 : (2 * q + 1) * X = 2 * (q * X) + X := by
      rw [Nat.add_mul, Nat.mul_assoc]; omega
    have e2 : 2 * q * X = 2 * (q * X) := Nat.mul_assoc _ _ _
    rw [e1, e2]; omega
theorem rneF_mono {N M X : Nat} (hX : 0 < X) (h : N ≤ M) : rneF N X ≤ rneF M X := by
  have a1 := Nat.div_add_mod N X
  have a2 := Nat.mod_lt N hX
  have b1 := Nat.div_add_mod M X
  have b2 := Nat.mod_lt M hX
  have hd := Nat.div_le_div_right (c := X) h
  unfold rneF
  generalize N / X = q at *
  generalize N % X = s at *
  generalize M / X = q' at *
  generalize M % X = s' at *
  by_cases e : q = q'
  · subst e
    have hs : s ≤ s' := by omega
    cases hb : (decide (X < 2 * s) || (X == 2 * s && q % 2 == 1)) with
    | false => simp
    | true =>
      have : (decide (X < 2 * s') || (X == 2 * s' && q % 2 == 1)) = true := by
        simp only [Bool.or_eq_true, decide_eq_true_eq, Bool.and_eq_true, beq_iff_eq] at hb ⊢
        omega
      rw [this]; exact Nat.le_refl _
  · have t1 := Bool.toNat_le (decide (X < 2 * s) || (X == 2 * s && q % 2 == 1))
    omega
theorem rneF_scale (N X s : Nat) (hs : 0 < s) : rneF (N * s) (X * s) = rneF N X := by
  unfold rneF
  rw [Nat.mul_div_mul_right _ _ hs, Nat.mul_mod_mul_right]
  have e1 : decide (X * s < 2 * (N % X * s)) = decide (X < 2 * (N % X)) := by
    rw [← Nat.mul_assoc]
    exact decide_eq_decide.2 (Nat.mul_lt_mul_right hs)
  have e2 : (X * s == 2 * (N % X * s)) = (X == 2 * (N % X)) := by
    rw [← Nat.mul_assoc, Bool.eq_iff_iff, beq_iff_eq, beq_iff_eq]
    exact ⟨fun h => Nat.eq_of_mul_eq_mul_right hs h, fun h => congrArg (fun x => x * s) h⟩
  rw [e1, e2]
theorem log2_lt_pow (n : Nat) : n < 2 ^ (n.log2 + 1) := Nat.lt_log2_self
/-- a cut to the even one is a rounding -/
theorem cut_is (n drop : Nat) : Toward.even.cut false n drop = rneF n (2 ^ drop) := by
  have hl := log2_lt_pow n
  have h2 : 2 ^ (n.log2 + 2) = 2 * 2 ^ (n.log2 + 1) := by rw [Nat.pow_succ, Nat.mul_comm]
  by_cases h : drop ≤ n.log2 + 2
  · unfold Toward.cut rneF
    simp only [Nat.shiftLeft_eq, Nat.one_mul, Nat.min_eq_left h]
  · have hm : min drop (n.log2 + 2) = n.log2 + 2 := by omega
    have hp : 2 ^ (n.log2 + 2) ≤ 2 ^ drop := Nat.pow_le_pow_right (by decide) (by omega)
    have big : ∀ X, 2 * n < X → rneF n X = 0 := by
      intro X hx
      unfold rneF
      rw [Nat.div_eq_of_lt (by omega), Nat.mod_eq_of_lt (by omega)]
      have : (decide (X < 2 * n) || (X == 2 * n && 0 % 2 == 1)) = false := by simp; omega
      rw [this]; rfl
    rw [big (2 ^ drop) (by omega)]
    have : Toward.even.cut false n drop = rneF n (2 ^ (n.log2 + 2)) := by
      unfold Toward.cut rneF
      simp only [Nat.shiftLeft_eq, Nat.one_mul, hm]
    rw [this, big _ (by omega)]
theorem log2_mul (n t : Nat) (hn : n ≠ 0) : (n * 2 ^ t).log2 = n.log2 + t := by
  have hne : n * 2 ^ t ≠ 0 := Nat.mul_ne_zero hn (Nat.ne_of_gt (pow_pos2 t))
  apply Nat.le_antisymm
  · have : (n * 2 ^ t).log2 < n.log2 + t + 1 := by
      rw [Nat.log2_lt hne, show n.log2 + t + 1 = (n.log2 + 1) + t by omega, Nat.pow_add]
      exact Nat.mul_lt_mul_of_pos_right (log2_lt_pow n) (pow_pos2 t)
    omega
  · rw [Nat.le_log2 hne, Nat.pow_add]
    exact Nat.mul_le_mul_right _ (Nat.log2_self_le hn)

/-- the word nearest to N / 2 ^ d units -/
def nearF (N d : Nat) : Nat := if N = 0 then 0 else min ((N.log2 - (d + 52)) * 4503599627370496 + rneF N (2 ^ (d + (N.log2 - (d + 52))))) 9218868437227405312
theorem nearest_is {mag t d : Nat} {place : Int} (hp : place = (t : Int) - d - 1074) : double.nearest false mag place = nearF (mag * 2 ^ t) d := by
  unfold Format.nearest nearF
  by_cases h0 : mag = 0
  · subst h0
    simp [Format.word]
  have hne : mag * 2 ^ t ≠ 0 := Nat.mul_ne_zero h0 (Nat.ne_of_gt (pow_pos2 t))
  rw [if_neg h0, if_neg hne, log2_mul mag t h0]
  have hlp : double.leastPlace = -1074 := by decide
  have hb : double.binade = 4503599627370496 := by decide
  have hi : double.infRung = 9218868437227405312 := by decide
  have hf : ((double.fractionBits : Nat) : Int) = 52 := rfl
  simp only [hlp, hb, hi, hf]
  generalize hk : mag.log2 + t - (d + 52) = k
  have hlast : max (place + (mag.log2 : Int) - 52) (-1074) = (k : Int) - 1074 := by omega
  rw [hlast, cut_is]
  have e1 : ((k : Int) - 1074 - -1074).toNat = k := by omega
  have e2 : (place - ((k : Int) - 1074)).toNat = t - (d + k) := by omega
  have e3 : ((k : Int) - 1074 - place).toNat = d + k - t := by omega
  rw [e1, e2, e3]
  have : rneF (mag <<< (t - (d + k))) (2 ^ (d + k - t)) = rneF (mag * 2 ^ t) (2 ^ (d + k)) := by
    rw [Nat.shiftLeft_eq]
    by_cases hc : d + k ≤ t
    · rw [show d + k - t = 0 by omega, Nat.pow_zero]
      have := rneF_scale (mag * 2 ^ (t - (d + k))) 1 (2 ^ (d + k)) (pow_pos2 _)
      rw [Nat.mul_assoc, ← Nat.pow_add, show t - (d + k) + (d + k) = t by omega, Nat.one_mul] at this
      exact this.symm
    · rw [show t - (d + k) = 0 by omega, Nat.pow_zero, Nat.mul_one]
      have := rneF_scale mag (2 ^ (d + k - t)) (2 ^ t) (pow_pos2 _)
      rw [← Nat.pow_add, show d + k - t + t = d + k by omega] at this
      exact this.symm
  rw [this]
  simp [Format.word]
/-- the nearest word, as a place and what is kept -/
theorem nearF_at {N d : Nat} (h0 : N ≠ 0) : ∃ k c, nearF N d = min (k * 4503599627370496 + c) 9218868437227405312 ∧ k = N.log2 - (d + 52) ∧ c = rneF N (2 ^ (d + k)) ∧ c ≤ 2 * 4503599627370496 ∧ (k = 0 ∨ 4503599627370496 ≤ c) ∧
    (k = 0 ∨ 4503599627370496 * 2 ^ (d + k) ≤ N) ∧ N < 2 * 4503599627370496 * 2 ^ (d + k) ∧ 2 * N ≤ (2 * c + 1) * 2 ^ (d + k) ∧ 2 * c * 2 ^ (d + k) ≤ 2 * N + 2 ^ (d + k) := by
  refine ⟨N.log2 - (d + 52), rneF N (2 ^ (d + (N.log2 - (d + 52)))), by unfold nearF; rw [if_neg h0], rfl, rfl, ?_⟩
  generalize hk : N.log2 - (d + 52) = k
  obtain ⟨r1, r2⟩ := rneF_le N (2 ^ (d + k)) (pow_pos2 _)
  generalize rneF N (2 ^ (d + k)) = c at *
  have hX := pow_pos2 (d + k)
  have hup : N < 2 * 4503599627370496 * 2 ^ (d + k) := by
    have h1 := log2_lt_pow N
    have h2 : 2 ^ (N.log2 + 1) ≤ 2 ^ (53 + (d + k)) := Nat.pow_le_pow_right (by decide) (by omega)
    rw [Nat.pow_add 2 53, show (2 : Nat) ^ 53 = 2 * 4503599627370496 by decide] at h2
    exact Nat.lt_of_lt_of_le h1 h2
  have hlo : k = 0 ∨ 4503599627370496 * 2 ^ (d + k) ≤ N := by
    by_cases hk0 : k = 0
    · exact Or.inl hk0
    · right
      have h1 := Nat.log2_self_le h0
      rw [show N.log2 = 52 + (d + k) by omega, Nat.pow_add 2 52, show (2 : Nat) ^ 52 = 4503599627370496 by decide] at h1
      exact h1
  generalize 2 ^ (d + k) = X at *
  refine ⟨?_, ?_, hlo, hup, r1, r2⟩
  · refine Nat.le_of_lt_succ (Nat.lt_of_not_le (fun h => ?_))
    have h3 : (2 * 4503599627370496 + 1) * X ≤ c * X := Nat.mul_le_mul_right X h
    rw [Nat.mul_assoc] at r2
    rw [Nat.add_mul] at h3
    omega
  · rcases hlo with h | h
    · exact Or.inl h
    · right
      refine Nat.le_of_not_lt (fun hc => ?_)
      have h3 : (2 * c + 1) * X ≤ (2 * 4503599627370496 - 1) * X := Nat.mul_le_mul_right X (by omega)
      have h4 : (2 * 4503599627370496 - 1) * X = 2 * (4503599627370496 * X) - X := by rw [Nat.sub_mul, Nat.mul_assoc, Nat.one_mul]
      omega
theorem le_near {r N d : Nat} (h : valF r * 2 ^ d ≤ N) : min r 9218868437227405312 ≤ nearF N d := by
  by_cases h0 : N = 0
  · subst h0
    have : valF r * 2 ^ d = 0 := Nat.le_zero.1 h
    have : valF r = 0 := by
      rcases Nat.mul_eq_zero.1 this with h | h
      · exact h
      · have := pow_pos2 d; omega
    have : r = 0 := by
      refine Nat.le_zero.1 (Nat.le_of_not_lt (fun hr => ?_))
      have := valF_lt hr
      rw [valF_zero] at this; omega
    subst this
    simp
  obtain ⟨k, c, e, -, -, hc, hk, -, hup, r1, r2⟩ := nearF_at (d := d) h0
  rw [e]
  refine Nat.le_min.2 ⟨?_, Nat.min_le_right _ _⟩
  refine Nat.le_trans (Nat.min_le_left _ _) (Nat.le_of_not_lt (fun hr => ?_))
  have hX := pow_pos2 (d + k)
  by_cases h2 : c = 2 * 4503599627370496
  · have h3 := valF_lt hr
    rw [valF_at hc hk, h2] at h3
    have h4 : 2 * 4503599627370496 * 2 ^ k * 2 ^ d ≤ valF r * 2 ^ d := Nat.mul_le_mul_right _ (Nat.le_of_lt h3)
    rw [Nat.mul_assoc, ← Nat.pow_add, Nat.add_comm k d] at h4
    omega
  · have h3 : valF (k * 4503599627370496 + (c + 1)) ≤ valF r := valF_le (by omega)
    rw [valF_at (by omega) (by omega)] at h3
    have h4 : (c + 1) * 2 ^ k * 2 ^ d ≤ valF r * 2 ^ d := Nat.mul_le_mul_right _ h3
    rw [Nat.mul_assoc, ← Nat.pow_add, Nat.add_comm k d] at h4
    generalize 2 ^ (d + k) = X at *
    have h5 : (2 * c + 1) * X = 2 * (c * X) + X := by rw [Nat.add_mul, Nat.mul_assoc, Nat.one_mul]
    have h6 : (c + 1) * X = c * X + X := by rw [Nat.add_mul, Nat.one_mul]
    omega
theorem near_le {r N d : Nat} (h : N ≤ valF r * 2 ^ d) : nearF N d ≤ r := by
  by_cases h0 : N = 0
  · subst h0; simp [nearF]
  obtain ⟨k, c, e, -, -, hc, hk, hlo, hup, r1, r2⟩ := nearF_at (d := d) h0
  rw [e]
  refine Nat.le_trans (Nat.min_le_left _ _) (Nat.le_of_not_lt (fun hr => ?_))
  have hX := pow_pos2 (d + k)
  by_cases h2 : k = 0 ∨ 4503599627370496 ≤ c - 1
  · have hc1 : c ≠ 0 := by
      intro hc0; omega
    have h3 : valF r ≤ valF (k * 4503599627370496 + (c - 1)) := valF_le (by omega)
    rw [valF_at (by omega) h2] at h3
    have h4 : valF r * 2 ^ d ≤ (c - 1) * 2 ^ k * 2 ^ d := Nat.mul_le_mul_right _ h3
    rw [Nat.mul_assoc, ← Nat.pow_add, Nat.add_comm k d] at h4
    generalize 2 ^ (d + k) = X at *
    have h5 : 2 * c * X = 2 * (c * X) := Nat.mul_assoc _ _ _
    have h6 : (c - 1) * X = c * X - X := by rw [Nat.sub_mul, Nat.one_mul]
    have h7 : X ≤ c * X := Nat.le_mul_of_pos_left X (by omega)
    omega
  · have hc2 : c = 4503599627370496 := by omega
    have h3 := valF_lt hr
    rw [valF_at hc hk, hc2] at h3
    have h4 : valF r * 2 ^ d < 4503599627370496 * 2 ^ k * 2 ^ d := Nat.mul_lt_mul_of_pos_right h3 (pow_pos2 d)
    rw [Nat.mul_assoc, ← Nat.pow_add, Nat.add_comm k d] at h4
    rcases hlo with h5 | h5
    · omega
    · omega
theorem near_exact {r N d : Nat} (hr : r ≤ 9218868437227405312) (h : N = valF r * 2 ^ d) : nearF N d = r := by
  have h1 := near_le (Nat.le_of_eq h)
  have h2 := le_near (Nat.le_of_eq h.symm)
  rw [Nat.min_eq_left hr] at h2
  exact Nat.le_antisymm h1 h2
theorem near_inf (N d : Nat) : nearF N d ≤ 9218868437227405312 := by
  unfold nearF
  split
  · exact Nat.zero_le _
  · exact Nat.min_le_right _ _
theorem near_mono {N M d : Nat} (h : N ≤ M) : nearF N d ≤ nearF M d := by
  by_cases h0 : N = 0
  · subst h0; simp [nearF]
  obtain ⟨k, c, e, hk, hc, -, -, -, hup, -, -⟩ := nearF_at (d := d) h0
  obtain ⟨l, b, e', hl, hb, -, -, hlo, -, -, -⟩ := nearF_at (N := M) (d := d) (by omega)
  have hlog : N.log2 ≤ M.log2 := (Nat.le_log2 (by omega)).2 (Nat.le_trans (Nat.log2_self_le h0) h)
  by_cases hkl : k = l
  · subst hkl
    rw [e, e', hc, hb]
    exact Nat.le_min.2 ⟨Nat.le_trans (Nat.min_le_left _ _) (Nat.add_le_add_left (rneF_mono (pow_pos2 (d + k)) h) _), Nat.min_le_right _ _⟩
  · have hkl' : k + 1 ≤ l := by omega
    have hlo' : 4503599627370496 * 2 ^ (d + l) ≤ M := by
      rcases hlo with h | h
      · omega
      · exact h
    have hv : valF (l * 4503599627370496 + 4503599627370496) = 4503599627370496 * 2 ^ l := valF_at (by omega) (Or.inr (Nat.le_refl _))
    have e1 : valF (l * 4503599627370496 + 4503599627370496) * 2 ^ d = 4503599627370496 * 2 ^ (d + l) := by rw [hv, Nat.mul_assoc, ← Nat.pow_add, Nat.add_comm l d]
    have h1 : nearF N d ≤ l * 4503599627370496 + 4503599627370496 := near_le (by
      rw [e1]
      have h2 : 2 ^ (d + k + 1) ≤ 2 ^ (d + l) := Nat.pow_le_pow_right (by decide) (by omega)
      have h3 : 4503599627370496 * 2 ^ (d + k + 1) ≤ 4503599627370496 * 2 ^ (d + l) := Nat.mul_le_mul_left _ h2
      rw [Nat.pow_succ] at h3
      generalize 2 ^ (d + k) = X at *
      omega)
    have h2 := le_near (r := l * 4503599627370496 + 4503599627370496) (N := M) (d := d) (by rw [e1]; exact hlo')
    have h3 := near_inf N d
    exact Nat.le_trans (Nat.le_min.2 ⟨h1, h3⟩) h2
theorem near_scale (N d s : Nat) : nearF (N * 2 ^ s) (d + s) = nearF N d := by
  unfold nearF
  by_cases h0 : N = 0
  · subst h0; simp
  have hne : N * 2 ^ s ≠ 0 := Nat.mul_ne_zero h0 (Nat.ne_of_gt (pow_pos2 s))
  rw [if_neg h0, if_neg hne, log2_mul N s h0, show N.log2 + s - (d + s + 52) = N.log2 - (d + 52) by omega,
    show d + s + (N.log2 - (d + 52)) = d + (N.log2 - (d + 52)) + s by omega, Nat.pow_add, rneF_scale _ _ _ (pow_pos2 s)]

/-- what a finite word with no sign reads as -/
theorem readF {r : Nat} (h : r < 9218868437227405312) : ∃ k m : Nat, double.read r = .number false m ((k : Int) - 1074) ∧ r = k * 4503599627370496 + m ∧ m < 2 * 4503599627370496 ∧ (k = 0 ∨ 4503599627370496 ≤ m) ∧ valF r = m * 2 ^ k := by
  have hlp : double.leastPlace = -1074 := by decide
  have hb : double.binade = 4503599627370496 := by decide
  have hi : double.infRung = 9218868437227405312 := by decide
  have hs : double.signWeight = 9223372036854775808 := by decide
  have hneg : (r / 9223372036854775808 % 2 == 1) = false := by
    rw [Nat.div_eq_of_lt (by omega)]; rfl
  have hmod : r % 9223372036854775808 = r := Nat.mod_eq_of_lt (by omega)
  by_cases h1 : r < 4503599627370496
  · refine ⟨0, r, ?_, by omega, by omega, Or.inl rfl, by unfold valF; rw [if_pos h1]; simp⟩
    unfold Format.read
    simp only [hlp, hb, hi, hs, hneg, hmod, if_pos h1]
    rfl
  · refine ⟨r / 4503599627370496 - 1, 4503599627370496 + r % 4503599627370496, ?_, by omega, by omega, Or.inr (by omega), by unfold valF; rw [if_neg h1]⟩
    unfold Format.read
    simp only [hlp, hb, hi, hs, hneg, hmod, if_neg h1, if_pos h]
    congr 1
theorem readF_inf : double.read 9218868437227405312 = .infinity false := by decide
theorem order_fin {a b : Nat} (ha : a < 9218868437227405312) (hb : b < 9218868437227405312) : double.order a b = some (compare a b) := by
  obtain ⟨k, m, e1, -, -, -, v1⟩ := readF ha
  obtain ⟨l, n, e2, -, -, -, v2⟩ := readF hb
  unfold Format.order
  rw [e1, e2]
  simp only [Datum.order, signed, Bool.false_eq_true, if_false, Nat.shiftLeft_eq]
  have hm : min ((k : Int) - 1074) ((l : Int) - 1074) = ((min k l : Nat) : Int) - 1074 := by omega
  rw [hm]
  have f1 : ((k : Int) - 1074 - (((min k l : Nat) : Int) - 1074)).toNat = k - min k l := by omega
  have f2 : ((l : Int) - 1074 - (((min k l : Nat) : Int) - 1074)).toNat = l - min k l := by omega
  rw [f1, f2]
  have g1 : m * 2 ^ (k - min k l) * 2 ^ min k l = valF a := by
    rw [v1, Nat.mul_assoc, ← Nat.pow_add, show k - min k l + min k l = k by omega]
  have g2 : n * 2 ^ (l - min k l) * 2 ^ min k l = valF b := by
    rw [v2, Nat.mul_assoc, ← Nat.pow_add, show l - min k l + min k l = l by omega]
  generalize m * 2 ^ (k - min k l) = x at *
  generalize n * 2 ^ (l - min k l) = y at *
  have hp := pow_pos2 (min k l)
  generalize 2 ^ min k l = s at *
  congr 1
  rcases Nat.lt_trichotomy a b with h | h | h
  · have h1 := valF_lt h
    rw [← g1, ← g2] at h1
    have h2 : x < y := Nat.lt_of_mul_lt_mul_right h1
    rw [Nat.compare_eq_lt.2 h]
    exact (Int.compare_eq_lt).2 (by omega)
  · subst h
    have h2 : x = y := Nat.eq_of_mul_eq_mul_right hp (g1.trans g2.symm)
    subst h2
    rw [Nat.compare_eq_eq.2 rfl]
    exact (Int.compare_eq_eq).2 rfl
  · have h1 := valF_lt h
    rw [← g1, ← g2] at h1
    have h2 : y < x := Nat.lt_of_mul_lt_mul_right h1
    rw [Nat.compare_eq_gt.2 h]
    exact (Int.compare_eq_gt).2 (by omega)
theorem orderF {a b : Nat} (ha : a ≤ 9218868437227405312) (hb : b ≤ 9218868437227405312) : double.order a b = some (compare a b) := by
  by_cases h1 : a = 9218868437227405312
  · by_cases h2 : b = 9218868437227405312
    · subst h1 h2; decide
    · obtain ⟨l, n, e2, -⟩ := readF (r := b) (by omega)
      unfold Format.order
      rw [h1, readF_inf, e2, Nat.compare_eq_gt.2 (by omega)]
      rfl
  · by_cases h2 : b = 9218868437227405312
    · obtain ⟨l, n, e2, -⟩ := readF (r := a) (by omega)
      unfold Format.order
      rw [h2, readF_inf, e2, Nat.compare_eq_lt.2 (by omega)]
      rfl
    · exact order_fin (by omega) (by omega)
/-- the amount cleaned -/
def cleanF (x : Nat) : Nat := if x < 9218868437227405312 then x else if x = 9218868437227405312 then 9218868437227405312 - 1 else 0
theorem cleanF_lt (x : Nat) : cleanF x < 9218868437227405312 := by
  unfold cleanF; split
  · assumption
  · split <;> decide
theorem cleanF_self {x : Nat} (h : x < 9218868437227405312) : cleanF x = x := if_pos h
theorem cleanF_clean (x : Nat) : cleanF (cleanF x) = cleanF x := cleanF_self (cleanF_lt x)
theorem cleanF_ge {x y : Nat} (hx : x < 9218868437227405312) (h : x ≤ y) (hy : y ≤ 9218868437227405312) : x ≤ cleanF y := by
  unfold cleanF; split
  · exact h
  · rw [if_pos (by omega)]; omega
theorem readF_nan {r : Nat} (h1 : 9218868437227405312 < r) (h2 : r < 9223372036854775808) : double.read r = .nan false (r - 9218868437227405312) := by
  have hb : double.binade = 4503599627370496 := by decide
  have hi : double.infRung = 9218868437227405312 := by decide
  have hs : double.signWeight = 9223372036854775808 := by decide
  have hneg : (r / 9223372036854775808 % 2 == 1) = false := by
    rw [Nat.div_eq_of_lt (by omega)]; rfl
  have hmod : r % 9223372036854775808 = r := Nat.mod_eq_of_lt (by omega)
  unfold Format.read
  simp only [hb, hi, hs, hneg, hmod, if_neg (show ¬ r < 4503599627370496 by omega), if_neg (show ¬ r < 9218868437227405312 by omega), if_neg (show ¬ r = 9218868437227405312 by omega)]
theorem readF_neg {y : Nat} (h : y < 9223372036854775808) : double.read (9223372036854775808 + y) = (double.read y).opposite := by
  have hs : double.signWeight = 9223372036854775808 := by decide
  have n1 : ((9223372036854775808 + y) / 9223372036854775808 % 2 == 1) = true := by
    rw [show (9223372036854775808 + y) / 9223372036854775808 = 1 by omega]; rfl
  have n2 : (y / 9223372036854775808 % 2 == 1) = false := by
    rw [Nat.div_eq_of_lt h]; rfl
  have m1 : (9223372036854775808 + y) % 9223372036854775808 = y := by omega
  have m2 : y % 9223372036854775808 = y := Nat.mod_eq_of_lt h
  unfold Format.read
  simp only [hs, n1, n2, m1, m2]
  repeat' split
  all_goals rfl
/-- no word but one with no sign is greater than one with none -/
theorem order_gt {x b : Nat} (hx : x < 18446744073709551616) (hb : b ≤ 9218868437227405312) : (double.order x b == some Ordering.gt) = decide (b < x ∧ x ≤ 9218868437227405312) := by
  by_cases h1 : x ≤ 9218868437227405312
  · rw [orderF h1 hb, Bool.eq_iff_iff, decide_eq_true_eq, beq_iff_eq, Option.some.injEq, Nat.compare_eq_gt]
    exact ⟨fun h => ⟨h, h1⟩, fun h => h.1⟩
  · rw [decide_eq_false (fun h => h1 h.2)]
    by_cases h2 : x < 9223372036854775808
    · unfold Format.order
      rw [readF_nan (by omega) h2]
      rfl
    · obtain ⟨y, rfl⟩ : ∃ y, x = 9223372036854775808 + y := ⟨x - 9223372036854775808, by omega⟩
      unfold Format.order
      rw [readF_neg (by omega)]
      by_cases h3 : 9218868437227405312 < y
      · rw [readF_nan h3 (by omega)]; rfl
      · by_cases h4 : y = 9218868437227405312
        · rw [h4, readF_inf]
          by_cases h5 : b = 9218868437227405312
          · rw [h5, readF_inf]; rfl
          · obtain ⟨l, n, e, -⟩ := readF (r := b) (by omega)
            rw [e]; rfl
        · obtain ⟨k, m, e1, -⟩ := readF (r := y) (by omega)
          rw [e1]
          by_cases h5 : b = 9218868437227405312
          · rw [h5, readF_inf]; rfl
          · obtain ⟨l, n, e, -⟩ := readF (r := b) (by omega)
            rw [e]
            simp only [Datum.opposite, Datum.order, signed, Bool.not_false, if_true, Bool.false_eq_true, if_false]
            rw [beq_eq_false_iff_ne]
            intro hc
            injection hc with hc
            rw [Int.compare_eq_gt] at hc
            generalize m <<< _ = x at hc
            generalize n <<< _ = y at hc
            omega
theorem addF {a b : Nat} (ha : a < 9218868437227405312) (hb : b < 9218868437227405312) : double.add a b = some (nearF (valF a + valF b) 0) := by
  obtain ⟨k, m, e1, -, -, -, v1⟩ := readF ha
  obtain ⟨l, n, e2, -, -, -, v2⟩ := readF hb
  unfold Format.add
  rw [e1, e2]
  simp only [Datum.sum, signed, Bool.false_eq_true, if_false, Nat.shiftLeft_eq, Bool.false_and, Option.map_some, Format.write]
  have hm : min ((k : Int) - 1074) ((l : Int) - 1074) = ((min k l : Nat) : Int) - 1074 := by omega
  rw [hm]
  have f1 : ((k : Int) - 1074 - (((min k l : Nat) : Int) - 1074)).toNat = k - min k l := by omega
  have f2 : ((l : Int) - 1074 - (((min k l : Nat) : Int) - 1074)).toNat = l - min k l := by omega
  rw [f1, f2]
  have g1 : m * 2 ^ (k - min k l) * 2 ^ min k l = valF a := by
    rw [v1, Nat.mul_assoc, ← Nat.pow_add, show k - min k l + min k l = k by omega]
  have g2 : n * 2 ^ (l - min k l) * 2 ^ min k l = valF b := by
    rw [v2, Nat.mul_assoc, ← Nat.pow_add, show l - min k l + min k l = l by omega]
  generalize m * 2 ^ (k - min k l) = x at *
  generalize n * 2 ^ (l - min k l) = y at *
  have hneg : (if (x : Int) + (y : Int) = 0 then false else decide ((x : Int) + (y : Int) < 0)) = false := by
    split
    · rfl
    · exact decide_eq_false (by omega)
  rw [hneg, show ((x : Int) + (y : Int)).natAbs = x + y by omega, nearest_is (t := min k l) (d := 0) (by omega), Nat.add_mul, g1, g2]
/-- half of an amount -/
def halfF (a : Nat) : Nat := nearF (valF a * 4503599627370496) 53
theorem halfF_le (a : Nat) : halfF a ≤ a := near_le (by
  refine Nat.mul_le_mul_left _ ?_
  decide)
theorem mul_halfF {a : Nat} (ha : a < 9218868437227405312) : double.mul a 4602678819172646912 = some (halfF a) := by
  obtain ⟨k, m, e1, -, -, -, v1⟩ := readF ha
  have e2 : double.read 4602678819172646912 = .number false 4503599627370496 (-53) := by decide
  unfold Format.mul
  rw [e1, e2]
  simp only [Datum.product, Bool.xor_false, Option.map_some, Format.write]
  rw [nearest_is (t := k) (d := 53) (by omega)]
  unfold halfF
  rw [v1, Nat.mul_right_comm]
/-- one, in units of the least place -/
def powF (k : Nat) : Nat := 2 ^ k
def unitF : Nat := powF 1074
theorem unit_pow {a b : Nat} (h : a + b = 1074) : 2 ^ a * 2 ^ b = unitF := by
  have e : powF (a + b) = 2 ^ a * 2 ^ b := Nat.pow_add 2 a b
  rw [h] at e
  exact e.symm
/-- the word of a whole number -/
def intF (n : Nat) : Nat := nearF (n * unitF) 0
theorem intF_is {n : Nat} (h0 : n ≠ 0) (h : n < 2 * 4503599627370496) : ∃ k m, intF n = k * 4503599627370496 + m ∧ m < 2 * 4503599627370496 ∧ 4503599627370496 ≤ m ∧ k ≤ 1074 ∧ m * 2 ^ k = n * unitF := by
  have hl : n.log2 ≤ 52 := by
    have : n.log2 < 53 := (Nat.log2_lt h0).2 (by rw [show (2 : Nat) ^ 53 = 2 * 4503599627370496 by decide]; exact h)
    omega
  have h1 := Nat.log2_self_le h0
  have h2 := log2_lt_pow n
  have e0 : (2 : Nat) ^ 52 = 4503599627370496 := by decide
  have p1 : 2 ^ n.log2 * 2 ^ (52 - n.log2) = 4503599627370496 := by rw [← Nat.pow_add, show n.log2 + (52 - n.log2) = 52 by omega, e0]
  have p2 : 2 ^ (n.log2 + 1) * 2 ^ (52 - n.log2) = 2 * 4503599627370496 := by rw [Nat.pow_succ, Nat.mul_right_comm, p1, Nat.mul_comm]
  have m1 : 4503599627370496 ≤ n * 2 ^ (52 - n.log2) := by rw [← p1]; exact Nat.mul_le_mul_right _ h1
  have m2 : n * 2 ^ (52 - n.log2) < 2 * 4503599627370496 := by rw [← p2]; exact Nat.mul_lt_mul_of_pos_right h2 (pow_pos2 _)
  have m3 : n * 2 ^ (52 - n.log2) * 2 ^ (1022 + n.log2) = n * unitF := by
    rw [Nat.mul_assoc, unit_pow (by omega)]
  refine ⟨1022 + n.log2, n * 2 ^ (52 - n.log2), ?_, m2, m1, by omega, m3⟩
  unfold intF
  refine near_exact ?_ ?_
  · omega
  · rw [valF_at (by omega) (Or.inr m1), m3, Nat.pow_zero, Nat.mul_one]
theorem intF_zero : intF 0 = 0 := by unfold intF nearF; rw [Nat.zero_mul, if_pos rfl]
theorem intF_lt {n : Nat} (h : n < 2 * 4503599627370496) : intF n < 9218868437227405312 := by
  by_cases h0 : n = 0
  · subst h0; rw [intF_zero]; decide
  · obtain ⟨k, m, e, h1, h2, h3, -⟩ := intF_is h0 h
    rw [e]; omega
theorem valF_int {n : Nat} (h : n < 2 * 4503599627370496) : valF (intF n) = n * unitF := by
  by_cases h0 : n = 0
  · subst h0; rw [intF_zero, valF_zero, Nat.zero_mul]
  · obtain ⟨k, m, e, h1, h2, h3, h4⟩ := intF_is h0 h
    rw [e, valF_at (by omega) (Or.inr h2), h4]
theorem intF_pos {n : Nat} (h0 : n ≠ 0) (h : n < 2 * 4503599627370496) : intF n ≠ 0 := by
  obtain ⟨k, m, e, h1, h2, h3, -⟩ := intF_is h0 h
  rw [e]; omega
theorem unit_at {t : Nat} (h : t = 1074) : 2 ^ t = unitF := congrArg powF h
theorem nearest_int (n : Nat) : double.nearest false n 0 = intF n := by
  obtain ⟨t, ht⟩ : ∃ t : Nat, t = 1074 := ⟨_, rfl⟩
  rw [nearest_is (t := t) (d := 0) (by omega), unit_at ht]
  rfl
theorem add_int {n m : Nat} (hn : n < 2 * 4503599627370496) (hm : m < 2 * 4503599627370496) : double.add (intF n) (intF m) = some (intF (n + m)) := by
  rw [addF (intF_lt hn) (intF_lt hm), valF_int hn, valF_int hm, ← Nat.add_mul]
  rfl
theorem mul_int2 {n : Nat} (hn : n < 2 * 4503599627370496) : double.mul 4611686018427387904 (intF n) = some (intF (2 * n)) := by
  obtain ⟨k, m, e1, -, -, -, v1⟩ := readF (intF_lt hn)
  have e2 : double.read 4611686018427387904 = .number false 4503599627370496 (-51) := by decide
  unfold Format.mul
  rw [e1, e2]
  simp only [Datum.product, Bool.xor_false, Option.map_some, Format.write]
  rw [nearest_is (t := k) (d := 51) (by omega), Nat.mul_assoc, ← v1, valF_int hn]
  unfold intF
  rw [← near_scale (2 * n * unitF) 0 51, show 4503599627370496 * (n * unitF) = 2 * n * unitF * 2 ^ 51 from ?_, Nat.zero_add]
  rw [show 4503599627370496 = 2 * 2251799813685248 by decide, show (2 : Nat) ^ 51 = 2251799813685248 by decide]
  generalize unitF = z
  rw [show 2 * n * z = 2 * (n * z) from Nat.mul_assoc _ _ _]
  omega

/-- the quotient's digits and one more -/
def quoD (D n : Nat) : Nat := 2 * (D / n) + (D % n != 0).toNat
def quoF (m n : Nat) : Nat := quoD (m * 2 ^ 54) n
theorem log2_53 {m : Nat} (h1 : 4503599627370496 ≤ m) (h2 : m < 2 * 4503599627370496) : m.log2 = 52 := by
  have a : m.log2 < 53 := (Nat.log2_lt (by omega)).2 (by rw [show (2 : Nat) ^ 53 = 2 * 4503599627370496 by decide]; exact h2)
  have b : 52 ≤ m.log2 := (Nat.le_log2 (by omega)).2 (by rw [show (2 : Nat) ^ 52 = 4503599627370496 by decide]; exact h1)
  omega
theorem div_is {a b k m l n : Nat} (ha : a < 9218868437227405312) (hb : b < 9218868437227405312) (ea : a = k * 4503599627370496 + m) (eb : b = l * 4503599627370496 + n) (m1 : 4503599627370496 ≤ m) (m2 : m < 2 * 4503599627370496) (n1 : 4503599627370496 ≤ n) (n2 : n < 2 * 4503599627370496) :
    double.div a b = some (nearF (quoF m n * 2 ^ (k + 1074)) (l + 55)) := by
  obtain ⟨k', m', e1, r1, s1, t1, -⟩ := readF ha
  obtain ⟨l', n', e2, r2, s2, t2, -⟩ := readF hb
  have hk : k' = k ∧ m' = m := by
    have : k' = 0 ∨ 4503599627370496 ≤ m' := t1
    omega
  have hl : l' = l ∧ n' = n := by
    have : l' = 0 ∨ 4503599627370496 ≤ n' := t2
    omega
  obtain ⟨rfl, rfl⟩ := hk
  obtain ⟨rfl, rfl⟩ := hl
  unfold Format.div
  rw [e1, e2]
  have hf : double.fractionBits + 2 = 54 := rfl
  rw [hf]
  simp only [Datum.quotient, if_neg (show ¬ n' = 0 by omega), log2_53 m1 m2, log2_53 n1 n2, Bool.xor_false, Option.map_some, Format.write, Nat.shiftLeft_eq, show 54 + 52 - 52 = 54 from rfl]
  rw [nearest_is (t := k' + 1074) (d := l' + 55) (by omega)]
  rfl
theorem div_some {a b : Nat} (ha : a < 9218868437227405312) (hb : b < 9218868437227405312) (h : ¬ (a = 0 ∧ b = 0)) : ∃ r, double.div a b = some r ∧ r ≤ 9218868437227405312 := by
  obtain ⟨k, m, e1, r1, s1, t1, -⟩ := readF ha
  obtain ⟨l, n, e2, r2, s2, t2, -⟩ := readF hb
  unfold Format.div
  rw [e1, e2]
  have hf : double.fractionBits + 2 = 54 := rfl
  rw [hf]
  by_cases hn : n = 0
  · have hm : m ≠ 0 := by
      intro hm
      refine h ⟨?_, ?_⟩ <;> omega
    refine ⟨9218868437227405312, ?_, Nat.le_refl _⟩
    simp only [Datum.quotient, if_pos hn, if_neg hm, Bool.xor_false, Option.map_some, Format.write]
    decide
  · simp only [Datum.quotient, if_neg hn, Bool.xor_false, Option.map_some, Format.write]
    refine ⟨_, rfl, ?_⟩
    generalize (54 + n.log2 - m.log2) = more
    generalize (2 * (m <<< more / n) + (m <<< more % n != 0).toNat) = q
    rw [nearest_is (t := k + 1074) (d := l + more + 1) (by omega)]
    exact near_inf _ _
theorem div_zero {a : Nat} (ha : a < 9218868437227405312) (h : a ≠ 0) : double.div a 0 = some 9218868437227405312 := by
  obtain ⟨k, m, e1, r1, s1, t1, -⟩ := readF ha
  have e2 : double.read 0 = .number false 0 (-1074) := by decide
  have hm : m ≠ 0 := by omega
  unfold Format.div
  rw [e1, e2]
  simp only [Datum.quotient, if_pos, if_neg hm, Bool.xor_false, Option.map_some, Format.write]
  decide
theorem quod_mono {D D' n : Nat} (h1 : D ≤ D') : quoD D n ≤ quoD D' n := by
  unfold quoD
  have hd := Nat.div_le_div_right (c := n) h1
  have a1 := Nat.div_add_mod D n
  have b1 := Nat.div_add_mod D' n
  by_cases e : D / n = D' / n
  · rw [e] at a1
    rw [e]
    by_cases hz : D % n = 0
    · rw [hz]; exact Nat.add_le_add_left (Nat.zero_le _) _
    · have hz' : D' % n ≠ 0 := by omega
      rw [bne_iff_ne.2 hz, bne_iff_ne.2 hz']
      exact Nat.le_refl _
  · have t1 := Bool.toNat_le (D % n != 0)
    omega
theorem quo_mono {m m' n : Nat} (h : m ≤ m') : quoF m n ≤ quoF m' n := quod_mono (Nat.mul_le_mul_right _ h)
theorem quod_twice {D D' X n : Nat} (hD : D' + X = 2 * D) (hX : 2 * n ≤ X) (hn0 : 0 < n) : quoD D' n ≤ 2 * quoD D n := by
  unfold quoD
  have t1 := Bool.toNat_le (D' % n != 0)
  have a1 := Nat.div_add_mod D n
  have a2 := Nat.mod_lt D hn0
  have b1 := Nat.div_add_mod D' n
  have b2 := Nat.mod_lt D' hn0
  generalize D / n = q at *
  generalize D' / n = q' at *
  generalize D % n = s at *
  generalize D' % n = s' at *
  have hq : q' + 1 ≤ 2 * q := by
    refine Nat.le_of_not_lt (fun hc => ?_)
    have h3 : n * (2 * q) ≤ n * q' := Nat.mul_le_mul_left n (by omega)
    have h4 : n * (2 * q) = 2 * (n * q) := by rw [Nat.mul_left_comm]
    omega
  omega
theorem quo_binade {m m' n : Nat} (h1 : m < 2 * 4503599627370496) (h2 : 4503599627370496 ≤ m') (hn : n < 2 * 4503599627370496) (hn0 : 0 < n) : quoF m n ≤ 2 * quoF m' n :=
  Nat.le_trans (quo_mono (m' := 2 * 4503599627370496 - 1) (by omega)) (Nat.le_trans (quod_twice (X := 2 ^ 54) (by decide) (by rw [show (2 : Nat) ^ 54 = 4 * 4503599627370496 by decide]; omega) hn0) (Nat.mul_le_mul_left 2 (quo_mono h2)))
theorem quo_up {m m' n a b : Nat} (h1 : m < 2 * 4503599627370496) (h2 : 4503599627370496 ≤ m') (hn : n < 2 * 4503599627370496) (hn0 : 0 < n) (h : a + 1 ≤ b) : quoF m n * 2 ^ a ≤ quoF m' n * 2 ^ b := by
  have h3 : 2 ^ (a + 1) ≤ 2 ^ b := Nat.pow_le_pow_right (by decide) h
  rw [Nat.pow_succ] at h3
  have h4 := quo_binade h1 h2 hn hn0
  refine Nat.le_trans (Nat.mul_le_mul_right _ h4) ?_
  rw [Nat.mul_assoc, Nat.mul_left_comm]
  refine Nat.mul_le_mul_left _ ?_
  rw [Nat.mul_comm]; exact h3
/-- somebody's share, of words that are clean -/
def shareF (a b : Nat) : Nat := if a = 0 then 0 else (double.div a b).getD 0
theorem shareF_le (a b : Nat) (ha : a < 9218868437227405312) (hb : b < 9218868437227405312) : shareF a b ≤ 9218868437227405312 := by
  unfold shareF; split
  · exact Nat.zero_le _
  · next h =>
    obtain ⟨r, e, hr⟩ := div_some ha hb (fun h' => h h'.1)
    rw [e]; exact hr
theorem shareF_div {a b : Nat} (ha : a < 9218868437227405312) (hb : b < 9218868437227405312) (h : a ≠ 0) : double.div a b = some (shareF a b) := by
  obtain ⟨r, e, hr⟩ := div_some ha hb (fun h' => h h'.1)
  unfold shareF
  rw [if_neg h, e]; rfl
theorem share_twice {h w : Nat} (hh : h < 4503599627370496) (hw : w < 4503599627370496) : shareF (intF (2 * h)) (intF (2 * w)) = shareF (intF h) (intF w) := by
  by_cases h0 : h = 0
  · subst h0; rw [Nat.mul_zero, intF_zero]; unfold shareF; rw [if_pos rfl, if_pos rfl]
  by_cases w0 : w = 0
  · subst w0
    unfold shareF
    rw [Nat.mul_zero, intF_zero, if_neg (intF_pos (by omega) (by omega)), if_neg (intF_pos (by omega) (by omega)), div_zero (intF_lt (by omega)) (intF_pos (by omega) (by omega)), div_zero (intF_lt (by omega)) (intF_pos (by omega) (by omega))]
  have tw : ∀ n, n ≠ 0 → n < 4503599627370496 → ∃ k m, intF n = k * 4503599627370496 + m ∧ m < 2 * 4503599627370496 ∧ 4503599627370496 ≤ m ∧ k ≤ 1074 ∧ intF (2 * n) = (k + 1) * 4503599627370496 + m := by
    intro n n0 hn
    obtain ⟨k, m, e, h1, h2, h3, h4⟩ := intF_is n0 (by omega)
    refine ⟨k, m, e, h1, h2, h3, ?_⟩
    show nearF (2 * n * unitF) 0 = _
    refine near_exact (by omega) ?_
    rw [valF_at (by omega) (Or.inr h2), Nat.pow_succ, ← Nat.mul_assoc, h4, Nat.pow_zero, Nat.mul_one, Nat.mul_assoc, Nat.mul_comm]
  obtain ⟨k, m, e1, m1, m2, k1, e2⟩ := tw h h0 hh
  obtain ⟨l, n, f1, n1, n2, l1, f2⟩ := tw w w0 hw
  unfold shareF
  rw [if_neg (intF_pos (by omega) (by omega)), if_neg (intF_pos (by omega) (by omega)), div_is (intF_lt (by omega)) (intF_lt (by omega)) e1 f1 m2 m1 n2 n1, div_is (intF_lt (by omega)) (intF_lt (by omega)) e2 f2 m2 m1 n2 n1]
  rw [show k + 1 + 1074 = k + 1074 + 1 by omega, show l + 1 + 55 = l + 55 + 1 by omega, Nat.pow_succ, ← Nat.mul_assoc]
  have := near_scale (quoF m n * 2 ^ (k + 1074)) (l + 55) 1
  rw [Nat.pow_one] at this
  rw [this]
theorem share_mono {h h' w : Nat} (hh : h ≤ h') (hh' : h' < 2 * 4503599627370496) (hw : w < 2 * 4503599627370496) : shareF (intF h) (intF w) ≤ shareF (intF h') (intF w) := by
  by_cases h0 : h = 0
  · subst h0; rw [intF_zero]; unfold shareF; rw [if_pos rfl]; exact Nat.zero_le _
  by_cases w0 : w = 0
  · subst w0
    unfold shareF
    rw [intF_zero, if_neg (intF_pos (by omega) (by omega)), if_neg (intF_pos (by omega) (by omega)), div_zero (intF_lt (by omega)) (intF_pos (by omega) (by omega)), div_zero (intF_lt (by omega)) (intF_pos (by omega) (by omega))]
    exact Nat.le_refl _
  obtain ⟨k, m, e1, m1, m2, k1, v1⟩ := intF_is h0 (by omega)
  obtain ⟨k', m', e2, m1', m2', k1', v2⟩ := intF_is (n := h') (by omega) hh'
  obtain ⟨l, n, f1, n1, n2, l1, -⟩ := intF_is w0 hw
  have hle : intF h ≤ intF h' := near_mono (Nat.mul_le_mul_right _ hh)
  clear v1 v2
  unfold shareF
  rw [if_neg (intF_pos (by omega) (by omega)), if_neg (intF_pos (by omega) (by omega)), div_is (intF_lt (by omega)) (intF_lt hw) e1 f1 m2 m1 n2 n1, div_is (intF_lt hh') (intF_lt hw) e2 f1 m2' m1' n2 n1, Option.getD_some, Option.getD_some]
  rw [e1, e2] at hle
  clear e1 e2 f1
  by_cases hk : k = k'
  · subst hk
    have hm : m ≤ m' := by omega
    exact near_mono (Nat.mul_le_mul_right _ (quo_mono hm))
  · have hkk : k + 1074 + 1 ≤ k' + 1074 := by omega
    have hn0 : 0 < n := by omega
    exact near_mono (quo_up m1 m2' n1 hn0 hkk)

end Go.Proofs.Ytaehhafdodoljaa
