/- More plain facts about floating-point words: an amount by two; words that are no number, or bear a sign. Nothing of the program stands here. -/
import Derived.Test.YtaehhafdodoljaaFloatMath
namespace Go.Proofs.Ytaehhafdodoljaa
open Ieee

theorem pow_half (m k s a b c : Nat) (h : s + 1 + (k + c) = k + a + (s + b)) : 2 * (m * 2 ^ s) * 2 ^ (k + c) = m * 2 ^ k * 2 ^ a * 2 ^ (s + b) := by
  have h1 : m * 2 ^ k * 2 ^ a * 2 ^ (s + b) = m * 2 ^ (k + a + (s + b)) := by rw [Nat.pow_add 2 (k + a) (s + b), Nat.pow_add 2 k a, Nat.mul_assoc m, Nat.mul_assoc m]
  have h2 : 2 * (m * 2 ^ s) * 2 ^ (k + c) = m * 2 ^ (s + 1 + (k + c)) := by rw [Nat.mul_left_comm, ← Nat.pow_succ', Nat.mul_assoc, ← Nat.pow_add]
  rw [h1, h2, h]
/-- by two, as by a half -/
theorem div_halfF {a : Nat} (ha : a < 9218868437227405312) : double.div a 4611686018427387904 = some (halfF a) := by
  obtain ⟨k, m, e1, -, s1, -, v1⟩ := readF ha
  have e2 : double.read 4611686018427387904 = .number false 4503599627370496 (-51) := by decide
  have hl : (4503599627370496 : Nat).log2 = 52 := log2_53 (by omega) (by omega)
  have hm : m.log2 ≤ 52 := by
    by_cases h0 : m = 0
    · subst h0; decide
    · have : m.log2 < 53 := (Nat.log2_lt h0).2 (by rw [show (2 : Nat) ^ 53 = 2 * 4503599627370496 by decide]; exact s1)
      omega
  unfold Format.div
  rw [e1, e2]
  have hf : double.fractionBits + 2 = 54 := rfl
  rw [hf]
  simp only [Datum.quotient, if_neg (show ¬ (4503599627370496 : Nat) = 0 by decide), hl, Bool.xor_false, Option.map_some, Format.write, Nat.shiftLeft_eq]
  obtain ⟨s, hs⟩ : ∃ s, 54 + 52 - m.log2 = s + 52 := ⟨54 - m.log2, by omega⟩
  rw [hs]
  have hp : m * 2 ^ (s + 52) = m * 2 ^ s * 4503599627370496 := by rw [Nat.pow_add, ← Nat.mul_assoc, show (2 : Nat) ^ 52 = 4503599627370496 by decide]
  rw [hp, Nat.mul_div_cancel _ (by decide), Nat.mul_mod_left]
  have hz : ((0 : Nat) != 0).toNat = 0 := by decide
  rw [hz, Nat.add_zero, nearest_is (t := k + 1074) (d := 53 + (s + 1023)) (by omega), pow_half m k s 52 1023 1074 (by omega), ← v1, show (2 : Nat) ^ 52 = 4503599627370496 by decide, near_scale]
  rfl
/-- is it no number, or none above 0? -/
theorem bad_word {x : Nat} (hx : x < 18446744073709551616) (h : ¬ (0 < x ∧ x ≤ 9218868437227405312)) : double.order x x = none ∨ (double.order x x = some Ordering.eq ∧ (double.order x 0 = some Ordering.lt ∨ double.order x 0 = some Ordering.eq)) := by
  by_cases h0 : x ≤ 9218868437227405312
  · have : x = 0 := by omega
    subst this
    exact Or.inr ⟨by decide, Or.inr (by decide)⟩
  · by_cases h2 : x < 9223372036854775808
    · unfold Format.order
      rw [readF_nan (by omega) h2]
      exact Or.inl rfl
    · obtain ⟨y, rfl⟩ : ∃ y, x = 9223372036854775808 + y := ⟨x - 9223372036854775808, by omega⟩
      unfold Format.order
      rw [readF_neg (by omega)]
      by_cases h3 : 9218868437227405312 < y
      · rw [readF_nan h3 (by omega)]
        exact Or.inl rfl
      · right
        by_cases h4 : y = 9218868437227405312
        · rw [h4, readF_inf]
          exact ⟨rfl, Or.inl (by decide)⟩
        · obtain ⟨k, m, e1, -⟩ := readF (r := y) (by omega)
          have e0 : double.read 0 = .number false 0 (-1074) := by decide
          rw [e1, e0]
          simp only [Datum.opposite, Datum.order, signed, Bool.not_false, if_true, Bool.false_eq_true, if_false]
          refine ⟨?_, ?_⟩
          · congr 1
            exact (Int.compare_eq_eq).2 rfl
          · generalize m <<< _ = z
            rw [show (0 : Nat) <<< _ = 0 from Nat.zero_shiftLeft _]
            by_cases hz : z = 0
            · right; congr 1; exact (Int.compare_eq_eq).2 (by omega)
            · left; congr 1; exact (Int.compare_eq_lt).2 (by omega)

end Go.Proofs.Ytaehhafdodoljaa
