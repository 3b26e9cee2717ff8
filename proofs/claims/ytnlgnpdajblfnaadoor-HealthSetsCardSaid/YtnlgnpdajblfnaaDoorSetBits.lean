/- Plain facts on sets kept as bits of four words; no condition. -/
import Derived.Test.YtnlgnpdajblfnaaDoorSetMath
import Derived.Lib.TrailingZeros
namespace Go.Proofs.YtnlgnpdajblfnaaDoor

/-- the number whose bit b, of the first k ones, is q b -/
def bitsTo (q : Nat → Bool) : Nat → Nat
  | 0 => 0
  | k + 1 => bitsTo q k ||| (if q k then 2 ^ k else 0)
theorem testBit_bitsTo (q : Nat → Bool) (j : Nat) : ∀ k, (bitsTo q k).testBit j = (decide (j < k) && q j)
  | 0 => by simp [bitsTo]
  | k + 1 => by
    have ih := testBit_bitsTo q j k
    unfold bitsTo
    rw [Nat.testBit_or, ih]
    by_cases hj : j = k
    · subst hj
      by_cases h : q j = true <;> simp [h]
    · have e : (if q k then 2 ^ k else 0 : Nat).testBit j = false := by
        split
        · rw [Nat.testBit_two_pow]; simp; omega
        · simp
      rw [e, Bool.or_false]
      have : decide (j < k + 1) = decide (j < k) := by
        rw [decide_eq_decide]; omega
      rw [this]
theorem bitsTo_lt (q : Nat → Bool) : ∀ k, bitsTo q k < 2 ^ k
  | 0 => by simp [bitsTo]
  | k + 1 => by
    have ih := bitsTo_lt q k
    unfold bitsTo
    refine Nat.or_lt_two_pow (by have : 2 ^ k < 2 ^ (k + 1) := Nat.pow_lt_pow_right (by omega) (by omega); omega) ?_
    split
    · exact Nat.pow_lt_pow_right (by omega) (by omega)
    · exact Nat.two_pow_pos _
theorem bitsTo_congr {q r : Nat → Bool} {k : Nat} (h : ∀ j, j < k → q j = r j) : bitsTo q k = bitsTo r k := by
  refine Nat.eq_of_testBit_eq fun j => ?_
  rw [testBit_bitsTo, testBit_bitsTo]
  by_cases hj : j < k
  · rw [h j hj]
  · simp [hj]
theorem bitsTo_or (q r : Nat → Bool) (k : Nat) : bitsTo q k ||| bitsTo r k = bitsTo (fun j => q j || r j) k := by
  refine Nat.eq_of_testBit_eq fun j => ?_
  rw [Nat.testBit_or, testBit_bitsTo, testBit_bitsTo, testBit_bitsTo]
  cases decide (j < k) <;> simp
theorem bitsTo_and (q r : Nat → Bool) (k : Nat) : bitsTo q k &&& bitsTo r k = bitsTo (fun j => q j && r j) k := by
  refine Nat.eq_of_testBit_eq fun j => ?_
  rw [Nat.testBit_and, testBit_bitsTo, testBit_bitsTo, testBit_bitsTo]
  cases decide (j < k) <;> simp
theorem testBit_compl {k b : Nat} (hb : b < 2 ^ k) (j : Nat) : (2 ^ k - 1 - b).testBit j = (decide (j < k) && !b.testBit j) := by
  rw [Nat.sub_sub, Nat.add_comm 1 b]
  exact Nat.testBit_two_pow_sub_succ hb j
theorem bitsTo_andNot (q r : Nat → Bool) (k : Nat) : bitsTo q k &&& (2 ^ k - 1 - bitsTo r k) = bitsTo (fun j => q j && !r j) k := by
  refine Nat.eq_of_testBit_eq fun j => ?_
  rw [Nat.testBit_and, testBit_compl (bitsTo_lt r k), testBit_bitsTo, testBit_bitsTo, testBit_bitsTo]
  cases decide (j < k) <;> simp
theorem bitsTo_zero {q : Nat → Bool} {k : Nat} : bitsTo q k = 0 ↔ ∀ j, j < k → q j = false := by
  constructor
  · intro h j hj
    have := testBit_bitsTo q j k
    rw [h] at this
    simpa [hj] using this.symm
  · intro h
    refine Nat.eq_of_testBit_eq fun j => ?_
    rw [testBit_bitsTo]
    by_cases hj : j < k
    · simp [h j hj]
    · simp [hj]

/-- word i of the set of those that p says yes to -/
def wordOf (p : Int → Bool) (i : Nat) : Nat := bitsTo (fun b => p ((64 * i + b : Nat) : Int)) 64
theorem wordOf_lt (p : Int → Bool) (i : Nat) : wordOf p i < 18446744073709551616 := bitsTo_lt _ 64
theorem wordOf_congr {p q : Int → Bool} {i : Nat} (h : ∀ b : Nat, b < 64 → p ((64 * i + b : Nat) : Int) = q ((64 * i + b : Nat) : Int)) : wordOf p i = wordOf q i := bitsTo_congr h
theorem wordOf_or (p q : Int → Bool) (i : Nat) : wordOf p i ||| wordOf q i = wordOf (fun n => p n || q n) i := bitsTo_or _ _ _
theorem wordOf_and (p q : Int → Bool) (i : Nat) : wordOf p i &&& wordOf q i = wordOf (fun n => p n && q n) i := bitsTo_and _ _ _
theorem wordOf_andNot (p q : Int → Bool) (i : Nat) : wordOf p i &&& (18446744073709551615 - wordOf q i) = wordOf (fun n => p n && !q n) i := bitsTo_andNot _ _ 64

/-- the four words of a set -/
def Four (p : Int → Bool) (a0 a1 a2 a3 : Nat) : Prop := a0 = wordOf p 0 ∧ a1 = wordOf p 1 ∧ a2 = wordOf p 2 ∧ a3 = wordOf p 3

/-- one more number put in -/
theorem wordOf_put (p : Int → Bool) (x i r : Nat) (hr : r < 64) (hx : x = 64 * i + r) : wordOf p i ||| 2 ^ r = wordOf (fun n => p n || n == (x : Int)) i := by
  refine Nat.eq_of_testBit_eq fun j => ?_
  unfold wordOf
  rw [Nat.testBit_or, testBit_bitsTo, testBit_bitsTo, Nat.testBit_two_pow]
  subst hx
  have e : (((64 * i + j : Nat) : Int) == ((64 * i + r : Nat) : Int)) = decide (r = j) := by
    rw [Bool.eq_iff_iff, beq_iff_eq, decide_eq_true_eq]; omega
  show _ = (decide (j < 64) && (p ((64 * i + j : Nat) : Int) || (((64 * i + j : Nat) : Int) == ((64 * i + r : Nat) : Int))))
  rw [e]
  by_cases h : r = j
  · subst h; simp [hr]
  · simp [h]
theorem wordOf_put_other (p : Int → Bool) (x i : Nat) (hx : x / 64 ≠ i) : wordOf (fun n => p n || n == (x : Int)) i = wordOf p i :=
  wordOf_congr fun b hb => by
    have : (((64 * i + b : Nat) : Int) == (x : Int)) = false := by
      rw [← Bool.not_eq_true, beq_iff_eq]; intro e; omega
    rw [this, Bool.or_false]

theorem two_pow_small (r : Nat) (hr : r < 64) : 2 ^ r < 18446744073709551616 := by
  have : (2 : Nat) ^ r < 2 ^ 64 := Nat.pow_lt_pow_right (by omega) hr
  exact this

/-- word i without its bits below t -/
def wordFrom (p : Int → Bool) (i t : Nat) : Nat := bitsTo (fun b => decide (t ≤ b) && p ((64 * i + b : Nat) : Int)) 64
theorem wordFrom_zero (p : Int → Bool) (i : Nat) : wordFrom p i 0 = wordOf p i := bitsTo_congr fun j _ => by simp
theorem wordFrom_lt (p : Int → Bool) (i t : Nat) : wordFrom p i t < 18446744073709551616 := bitsTo_lt _ 64
theorem testBit_wordFrom (p : Int → Bool) (i t j : Nat) : (wordFrom p i t).testBit j = (decide (j < 64) && (decide (t ≤ j) && p ((64 * i + j : Nat) : Int))) := testBit_bitsTo _ _ _

theorem and_pred_testBit (m c j : Nat) : ((2 ^ c * (2 * m + 1)) &&& (2 ^ c * (2 * m + 1) - 1)).testBit j = ((2 ^ c * (2 * m + 1)).testBit j && decide (j ≠ c)) := by
  have hp : 0 < 2 ^ c := Nat.two_pow_pos c
  have e1 : 2 ^ c * (2 * m + 1) = 2 ^ (c + 1) * m + 2 ^ c := by
    rw [Nat.pow_succ, Nat.mul_add, Nat.mul_one, Nat.mul_assoc]
  have hlt : 2 ^ c < 2 ^ (c + 1) := Nat.pow_lt_pow_right (by omega) (by omega)
  have e2 : 2 ^ c * (2 * m + 1) - 1 = 2 ^ (c + 1) * m + (2 ^ c - 1) := by rw [e1]; omega
  rw [Nat.testBit_and, e2, e1, Nat.testBit_two_pow_mul_add _ hlt, Nat.testBit_two_pow_mul_add _ (show 2 ^ c - 1 < 2 ^ (c + 1) by omega)]
  by_cases hj : j < c + 1
  · rw [if_pos hj, if_pos hj, Nat.testBit_two_pow, Nat.testBit_two_pow_sub_one]
    by_cases hjc : j = c
    · subst hjc; simp
    · have : ¬ c = j := fun e => hjc e.symm
      simp [this]
  · rw [if_neg hj, if_neg hj]
    have : j ≠ c := by omega
    simp [this]

/-- what the lowest bit of the rest of a word tells -/
theorem wordFrom_next {p : Int → Bool} {i t : Nat} (h : wordFrom p i t ≠ 0) :
    Lib.ctz 64 (wordFrom p i t) < 64 ∧ t ≤ Lib.ctz 64 (wordFrom p i t) ∧ p ((64 * i + Lib.ctz 64 (wordFrom p i t) : Nat) : Int) = true ∧
    (∀ b, t ≤ b → b < Lib.ctz 64 (wordFrom p i t) → p ((64 * i + b : Nat) : Int) = false) ∧
    wordFrom p i t &&& (wordFrom p i t - 1) = wordFrom p i (Lib.ctz 64 (wordFrom p i t) + 1) := by
  obtain ⟨m, hm, hc⟩ := Lib.ctzFrom_spec 64 (wordFrom p i t) (by omega) (wordFrom_lt p i t)
  have hz : Lib.ctz 64 (wordFrom p i t) = Lib.ctzFrom 64 (wordFrom p i t) := by unfold Lib.ctz; rw [if_neg h]
  rw [hz]
  generalize Lib.ctzFrom 64 (wordFrom p i t) = c at *
  have hlt : 2 ^ c < 2 ^ (c + 1) := Nat.pow_lt_pow_right (by omega) (by omega)
  have bit : ∀ j, j ≤ c → (wordFrom p i t).testBit j = decide (j = c) := fun j hj => by
    have e1 : wordFrom p i t = 2 ^ (c + 1) * m + 2 ^ c := by
      rw [hm, Nat.pow_succ, Nat.mul_add, Nat.mul_one, Nat.mul_assoc]
    rw [e1, Nat.testBit_two_pow_mul_add _ hlt, if_pos (by omega), Nat.testBit_two_pow]
    by_cases hjc : j = c
    · subst hjc; simp
    · have : ¬ c = j := fun e => hjc e.symm
      simp [hjc, this]
  have hbc := bit c (Nat.le_refl _)
  rw [testBit_wordFrom] at hbc
  have hbc' : (decide (c < 64) && (decide (t ≤ c) && p ((64 * i + c : Nat) : Int))) = true := by rw [hbc]; simp
  simp only [Bool.and_eq_true, decide_eq_true_eq] at hbc'
  refine ⟨hc, hbc'.2.1, hbc'.2.2, ?_, ?_⟩
  · intro b hb1 hb2
    have := bit b (by omega)
    rw [testBit_wordFrom] at this
    have h64 : b < 64 := by omega
    have hne : b ≠ c := by omega
    simpa [h64, hb1, hne] using this
  · refine Nat.eq_of_testBit_eq fun j => ?_
    have e := and_pred_testBit m c j
    rw [← hm] at e
    rw [e, testBit_wordFrom, testBit_wordFrom]
    by_cases hj : j ≤ c
    · have hb := bit j hj
      rw [testBit_wordFrom] at hb
      rw [hb]
      have h2 : ¬ c + 1 ≤ j := by omega
      by_cases hjc : j = c
      · simp [hjc]; omega
      · simp [hjc, h2]
    · have h1 : t ≤ j := by omega
      have h2 : c + 1 ≤ j := by omega
      have h3 : j ≠ c := by omega
      simp [h1, h2, h3]

theorem pickN_skip (p : Int → Bool) (m : Nat) : ∀ (d k : Nat), (∀ b, k ≤ b → b < k + d → p ((m + b : Nat) : Int) = false) → pickN p m (k + d) = pickN p m k
  | 0, k, _ => rfl
  | d + 1, k, h => by
    rw [← Nat.add_assoc, pickN_snoc, h (k + d) (by omega) (by omega), pickN_skip p m d k fun b h1 h2 => h b h1 (by omega)]
    simp
theorem wordFrom_done {p : Int → Bool} {i t : Nat} (ht : t ≤ 64) (h : wordFrom p i t = 0) : pickN p 0 (64 * i + t) = pickN p 0 (64 * (i + 1)) := by
  have e : 64 * (i + 1) = (64 * i + t) + (64 - t) := by omega
  rw [e]
  refine (pickN_skip p 0 (64 - t) (64 * i + t) ?_).symm
  intro b h1 h2
  have := bitsTo_zero.1 h (b - 64 * i) (by omega)
  have h3 : t ≤ b - 64 * i := by omega
  have h4 : 64 * i + (b - 64 * i) = 0 + b := by omega
  rw [h4] at this
  simpa [h3] using this
theorem wordFrom_take {p : Int → Bool} {i t : Nat} (h : wordFrom p i t ≠ 0) :
    pickN p 0 (64 * i + (Lib.ctz 64 (wordFrom p i t) + 1)) = pickN p 0 (64 * i + t) ++ [((64 * i + Lib.ctz 64 (wordFrom p i t) : Nat) : Int)] := by
  obtain ⟨h1, h2, h3, h4, -⟩ := wordFrom_next h
  generalize Lib.ctz 64 (wordFrom p i t) = c at *
  rw [← Nat.add_assoc, pickN_snoc, Nat.zero_add, if_pos h3]
  have e : 64 * i + c = (64 * i + t) + (c - t) := by omega
  conv => lhs; lhs; rw [e]
  refine congrArg (· ++ [((64 * i + c : Nat) : Int)]) (pickN_skip p 0 (c - t) (64 * i + t) ?_)
  intro b g1 g2
  have := h4 (b - 64 * i) (by omega) (by omega)
  have h5 : 64 * i + (b - 64 * i) = 0 + b := by omega
  rwa [h5] at this

end Go.Proofs.YtnlgnpdajblfnaaDoor
