/- Plain facts on sets kept as bits of four words; no condition. What the words of a set answer: join, meet, less and empty, on four words each; every word below 2^64. What set.pack, set.packBoth, words.empty and OnesCount64 answer: four words with a bit for each number of the set, or no set. bits.TrailingZeros64 of Go's library at this dump, by the library's contract: its table is taken as Go's text lays it. What the words of a set list: the numbers of the set, rising, in new memory; the table of trailing zeros as Go's text lays it. What is taken of the library's tables, where a seat's code reaches them: nothing, or that they lie as Go's text lays them. Words for memory: a slice of holdings that reads as a table; a holding by value. How layer 10's arguments are opened: a table of holdings, a holding by value. -/
import Derived.Lib.TrailingZeros
import Derived.Test.YtpoalgkgomljmaaDoorMg01
import Derived.LoopTactic
import Derived.RegionTactic
import Derived.ChangeAlike
import Derived.Handy
import Derived.Laws.BitsAllLaws
import Derived.ChangeKeysEq
import Derived.Test.YtpoalgkgomljmaaDoorMg02
import Derived.Shelf.Spec.TrailingZeros
import Derived.Shelf.Lays7
import Derived.Test.YtpoalgkgomljmaaDoorProg
namespace Go.Proofs.YtpoalgkgomljmaaDoor

/-- the number whose bit b, of the first k ones, is q b -/
def bitsTo (q : Nat → Bool) : Nat → Nat
  | 0 => 0
  | k + 1 => bitsTo q k ||| (if q k then 2 ^ k else 0)
theorem testBit_bitsTo (q : Nat → Bool) (j : Nat) : ∀ k, (bitsTo q k).testBit j = (decide (j < k) && q j)
  | 0 => by simp [bitsTo]
  | k + 1 => by
    have ih := testBit_bitsTo q j k
    unfold bitsTo
    rw [Nat.testBit_or, ih]
    by_cases hj : j = k
    · subst hj
      by_cases h : q j = true <;> simp [h]
    · have e : (if q k then 2 ^ k else 0 : Nat).testBit j = false := by
        split
        · rw [Nat.testBit_two_pow]; simp; omega
        · simp
      rw [e, Bool.or_false]
      have : decide (j < k + 1) = decide (j < k) := by
        rw [decide_eq_decide]; omega
      rw [this]
theorem bitsTo_lt (q : Nat → Bool) : ∀ k, bitsTo q k < 2 ^ k
  | 0 => by simp [bitsTo]
  | k + 1 => by
    have ih := bitsTo_lt q k
    unfold bitsTo
    refine Nat.or_lt_two_pow (by have : 2 ^ k < 2 ^ (k + 1) := Nat.pow_lt_pow_right (by omega) (by omega); omega) ?_
    split
    · exact Nat.pow_lt_pow_right (by omega) (by omega)
    · exact Nat.two_pow_pos _
theorem bitsTo_congr {q r : Nat → Bool} {k : Nat} (h : ∀ j, j < k → q j = r j) : bitsTo q k = bitsTo r k := by
  refine Nat.eq_of_testBit_eq fun j => ?_
  rw [testBit_bitsTo, testBit_bitsTo]
  by_cases hj : j < k
  · rw [h j hj]
  · simp [hj]
theorem bitsTo_or (q r : Nat → Bool) (k : Nat) : bitsTo q k ||| bitsTo r k = bitsTo (fun j => q j || r j) k := by
  refine Nat.eq_of_testBit_eq fun j => ?_
  rw [Nat.testBit_or, testBit_bitsTo, testBit_bitsTo, testBit_bitsTo]
  cases decide (j < k) <;> simp
theorem bitsTo_and (q r : Nat → Bool) (k : Nat) : bitsTo q k &&& bitsTo r k = bitsTo (fun j => q j && r j) k := by
  refine Nat.eq_of_testBit_eq fun j => ?_
  rw [Nat.testBit_and, testBit_bitsTo, testBit_bitsTo, testBit_bitsTo]
  cases decide (j < k) <;> simp
theorem testBit_compl {k b : Nat} (hb : b < 2 ^ k) (j : Nat) : (2 ^ k - 1 - b).testBit j = (decide (j < k) && !b.testBit j) := by
  rw [Nat.sub_sub, Nat.add_comm 1 b]
  exact Nat.testBit_two_pow_sub_succ hb j
theorem bitsTo_andNot (q r : Nat → Bool) (k : Nat) : bitsTo q k &&& (2 ^ k - 1 - bitsTo r k) = bitsTo (fun j => q j && !r j) k := by
  refine Nat.eq_of_testBit_eq fun j => ?_
  rw [Nat.testBit_and, testBit_compl (bitsTo_lt r k), testBit_bitsTo, testBit_bitsTo, testBit_bitsTo]
  cases decide (j < k) <;> simp
theorem bitsTo_zero {q : Nat → Bool} {k : Nat} : bitsTo q k = 0 ↔ ∀ j, j < k → q j = false := by
  constructor
  · intro h j hj
    have := testBit_bitsTo q j k
    rw [h] at this
    simpa [hj] using this.symm
  · intro h
    refine Nat.eq_of_testBit_eq fun j => ?_
    rw [testBit_bitsTo]
    by_cases hj : j < k
    · simp [h j hj]
    · simp [hj]

/-- word i of the set of those that p says yes to -/
def wordOf (p : Int → Bool) (i : Nat) : Nat := bitsTo (fun b => p ((64 * i + b : Nat) : Int)) 64
theorem wordOf_lt (p : Int → Bool) (i : Nat) : wordOf p i < 18446744073709551616 := bitsTo_lt _ 64
theorem wordOf_congr {p q : Int → Bool} {i : Nat} (h : ∀ b : Nat, b < 64 → p ((64 * i + b : Nat) : Int) = q ((64 * i + b : Nat) : Int)) : wordOf p i = wordOf q i := bitsTo_congr h
theorem wordOf_or (p q : Int → Bool) (i : Nat) : wordOf p i ||| wordOf q i = wordOf (fun n => p n || q n) i := bitsTo_or _ _ _
theorem wordOf_and (p q : Int → Bool) (i : Nat) : wordOf p i &&& wordOf q i = wordOf (fun n => p n && q n) i := bitsTo_and _ _ _
theorem wordOf_andNot (p q : Int → Bool) (i : Nat) : wordOf p i &&& (18446744073709551615 - wordOf q i) = wordOf (fun n => p n && !q n) i := bitsTo_andNot _ _ 64

/-- the four words of a set -/
def Four (p : Int → Bool) (a0 a1 a2 a3 : Nat) : Prop := a0 = wordOf p 0 ∧ a1 = wordOf p 1 ∧ a2 = wordOf p 2 ∧ a3 = wordOf p 3

/-- one more number put in -/
theorem wordOf_put (p : Int → Bool) (x i r : Nat) (hr : r < 64) (hx : x = 64 * i + r) : wordOf p i ||| 2 ^ r = wordOf (fun n => p n || n == (x : Int)) i := by
  refine Nat.eq_of_testBit_eq fun j => ?_
  unfold wordOf
  rw [Nat.testBit_or, testBit_bitsTo, testBit_bitsTo, Nat.testBit_two_pow]
  subst hx
  have e : (((64 * i + j : Nat) : Int) == ((64 * i + r : Nat) : Int)) = decide (r = j) := by
    rw [Bool.eq_iff_iff, beq_iff_eq, decide_eq_true_eq]; omega
  show _ = (decide (j < 64) && (p ((64 * i + j : Nat) : Int) || (((64 * i + j : Nat) : Int) == ((64 * i + r : Nat) : Int))))
  rw [e]
  by_cases h : r = j
  · subst h; simp [hr]
  · simp [h]
theorem wordOf_put_other (p : Int → Bool) (x i : Nat) (hx : x / 64 ≠ i) : wordOf (fun n => p n || n == (x : Int)) i = wordOf p i :=
  wordOf_congr fun b hb => by
    have : (((64 * i + b : Nat) : Int) == (x : Int)) = false := by
      rw [← Bool.not_eq_true, beq_iff_eq]; intro e; omega
    rw [this, Bool.or_false]

theorem two_pow_small (r : Nat) (hr : r < 64) : 2 ^ r < 18446744073709551616 := by
  have : (2 : Nat) ^ r < 2 ^ 64 := Nat.pow_lt_pow_right (by omega) hr
  exact this

/-- word i without its bits below t -/
def wordFrom (p : Int → Bool) (i t : Nat) : Nat := bitsTo (fun b => decide (t ≤ b) && p ((64 * i + b : Nat) : Int)) 64
theorem wordFrom_zero (p : Int → Bool) (i : Nat) : wordFrom p i 0 = wordOf p i := bitsTo_congr fun j _ => by simp
theorem wordFrom_lt (p : Int → Bool) (i t : Nat) : wordFrom p i t < 18446744073709551616 := bitsTo_lt _ 64
theorem testBit_wordFrom (p : Int → Bool) (i t j : Nat) : (wordFrom p i t).testBit j = (decide (j < 64) && (decide (t ≤ j) && p ((64 * i + j : Nat) : Int))) := testBit_bitsTo _ _ _

theorem and_pred_testBit (m c j : Nat) : ((2 ^ c * (2 * m + 1)) &&& (2 ^ c * (2 * m + 1) - 1)).testBit j = ((2 ^ c * (2 * m + 1)).testBit j && decide (j ≠ c)) := by
  have hp : 0 < 2 ^ c := Nat.two_pow_pos c
  have e1 : 2 ^ c * (2 * m + 1) = 2 ^ (c + 1) * m + 2 ^ c := by
    rw [Nat.pow_succ, Nat.mul_add, Nat.mul_one, Nat.mul_assoc]
  have hlt : 2 ^ c < 2 ^ (c + 1) := Nat.pow_lt_pow_right (by omega) (by omega)
  have e2 : 2 ^ c * (2 * m + 1) - 1 = 2 ^ (c + 1) * m + (2 ^ c - 1) := by rw [e1]; omega
  rw [Nat.testBit_and, e2, e1, Nat.testBit_two_pow_mul_add _ hlt, Nat.testBit_two_pow_mul_add _ (show 2 ^ c - 1 < 2 ^ (c + 1) by omega)]
  by_cases hj : j < c + 1
  · rw [if_pos hj, if_pos hj, Nat.testBit_two_pow, Nat.testBit_two_pow_sub_one]
    by_cases hjc : j = c
    · subst hjc; simp
    · have : ¬ c = j := fun e => hjc e.symm
      simp [this]
  · rw [if_neg hj, if_neg hj]
    have : j ≠ c := by omega
    simp [this]

/-- what the lowest bit of the rest of a word tells -/
theorem wordFrom_next {p : Int → Bool} {i t : Nat} (h : wordFrom p i t ≠ 0) :
    Lib.ctz 64 (wordFrom p i t) < 64 ∧ t ≤ Lib.ctz 64 (wordFrom p i t) ∧ p ((64 * i + Lib.ctz 64 (wordFrom p i t) : Nat) : Int) = true ∧
    (∀ b, t ≤ b → b < Lib.ctz 64 (wordFrom p i t) → p ((64 * i + b : Nat) : Int) = false) ∧
    wordFrom p i t &&& (wordFrom p i t - 1) = wordFrom p i (Lib.ctz 64 (wordFrom p i t) + 1) := by
  obtain ⟨m, hm, hc⟩ := Lib.ctzFrom_spec 64 (wordFrom p i t) (by omega) (wordFrom_lt p i t)
  have hz : Lib.ctz 64 (wordFrom p i t) = Lib.ctzFrom 64 (wordFrom p i t) := by unfold Lib.ctz; rw [if_neg h]
  rw [hz]
  generalize Lib.ctzFrom 64 (wordFrom p i t) = c at *
  have hlt : 2 ^ c < 2 ^ (c + 1) := Nat.pow_lt_pow_right (by omega) (by omega)
  have bit : ∀ j, j ≤ c → (wordFrom p i t).testBit j = decide (j = c) := fun j hj => by
    have e1 : wordFrom p i t = 2 ^ (c + 1) * m + 2 ^ c := by
      rw [hm, Nat.pow_succ, Nat.mul_add, Nat.mul_one, Nat.mul_assoc]
    rw [e1, Nat.testBit_two_pow_mul_add _ hlt, if_pos (by omega), Nat.testBit_two_pow]
    by_cases hjc : j = c
    · subst hjc; simp
    · have : ¬ c = j := fun e => hjc e.symm
      simp [hjc, this]
  have hbc := bit c (Nat.le_refl _)
  rw [testBit_wordFrom] at hbc
  have hbc' : (decide (c < 64) && (decide (t ≤ c) && p ((64 * i + c : Nat) : Int))) = true := by rw [hbc]; simp
  simp only [Bool.and_eq_true, decide_eq_true_eq] at hbc'
  refine ⟨hc, hbc'.2.1, hbc'.2.2, ?_, ?_⟩
  · intro b hb1 hb2
    have := bit b (by omega)
    rw [testBit_wordFrom] at this
    have h64 : b < 64 := by omega
    have hne : b ≠ c := by omega
    simpa [h64, hb1, hne] using this
  · refine Nat.eq_of_testBit_eq fun j => ?_
    have e := and_pred_testBit m c j
    rw [← hm] at e
    rw [e, testBit_wordFrom, testBit_wordFrom]
    by_cases hj : j ≤ c
    · have hb := bit j hj
      rw [testBit_wordFrom] at hb
      rw [hb]
      have h2 : ¬ c + 1 ≤ j := by omega
      by_cases hjc : j = c
      · simp [hjc]; omega
      · simp [hjc, h2]
    · have h1 : t ≤ j := by omega
      have h2 : c + 1 ≤ j := by omega
      have h3 : j ≠ c := by omega
      simp [h1, h2, h3]

theorem pickN_skip (p : Int → Bool) (m : Nat) : ∀ (d k : Nat), (∀ b, k ≤ b → b < k + d → p ((m + b : Nat) : Int) = false) → pickN p m (k + d) = pickN p m k
  | 0, k, _ => rfl
  | d + 1, k, h => by
    rw [← Nat.add_assoc, pickN_snoc, h (k + d) (by omega) (by omega), pickN_skip p m d k fun b h1 h2 => h b h1 (by omega)]
    simp
theorem wordFrom_done {p : Int → Bool} {i t : Nat} (ht : t ≤ 64) (h : wordFrom p i t = 0) : pickN p 0 (64 * i + t) = pickN p 0 (64 * (i + 1)) := by
  have e : 64 * (i + 1) = (64 * i + t) + (64 - t) := by omega
  rw [e]
  refine (pickN_skip p 0 (64 - t) (64 * i + t) ?_).symm
  intro b h1 h2
  have := bitsTo_zero.1 h (b - 64 * i) (by omega)
  have h3 : t ≤ b - 64 * i := by omega
  have h4 : 64 * i + (b - 64 * i) = 0 + b := by omega
  rw [h4] at this
  simpa [h3] using this
theorem wordFrom_take {p : Int → Bool} {i t : Nat} (h : wordFrom p i t ≠ 0) :
    pickN p 0 (64 * i + (Lib.ctz 64 (wordFrom p i t) + 1)) = pickN p 0 (64 * i + t) ++ [((64 * i + Lib.ctz 64 (wordFrom p i t) : Nat) : Int)] := by
  obtain ⟨h1, h2, h3, h4, -⟩ := wordFrom_next h
  generalize Lib.ctz 64 (wordFrom p i t) = c at *
  rw [← Nat.add_assoc, pickN_snoc, Nat.zero_add, if_pos h3]
  have e : 64 * i + c = (64 * i + t) + (c - t) := by omega
  conv => lhs; lhs; rw [e]
  refine congrArg (· ++ [((64 * i + c : Nat) : Int)]) (pickN_skip p 0 (c - t) (64 * i + t) ?_)
  intro b g1 g2
  have := h4 (b - 64 * i) (by omega) (by omega)
  have h5 : 64 * i + (b - 64 * i) = 0 + b := by omega
  rwa [h5] at this

end Go.Proofs.YtpoalgkgomljmaaDoor

namespace Go.Proofs.YtpoalgkgomljmaaDoor
open Go.RowKit

def U64 (a : Nat) : Prop := a < 18446744073709551616
theorem or64 {a b : Nat} (ha : U64 a) (hb : U64 b) : bits .or .u64 (a : Int) (b : Int) = ((a ||| b : Nat) : Int) := u64_or_nat a b ha hb
theorem and64 {a b : Nat} (ha : U64 a) (hb : U64 b) : bits .and .u64 (a : Int) (b : Int) = ((a &&& b : Nat) : Int) := u64_and_nat a b ha hb
/-- the complement of a word -/
def neg64 (b : Nat) : Nat := 18446744073709551615 - b
theorem andNot64 {a b : Nat} (ha : U64 a) (hb : U64 b) : bits .andNot .u64 (a : Int) (b : Int) = ((a &&& neg64 b : Nat) : Int) := u64_andNot_nat a b ha hb

set_option maxHeartbeats 1000000 in
theorem wjoin_any (a0 a1 a2 a3 b0 b1 b2 b3 : Nat) (w : World) (ha0 : U64 a0) (ha1 : U64 a1) (ha2 : U64 a2) (ha3 : U64 a3) (hb0 : U64 b0) (hb1 : U64 b1) (hb2 : U64 b2) (hb3 : U64 b3) :
    Calls Tryd.prog 15 #[.agg #[.int .u64 a0, .int .u64 a1, .int .u64 a2, .int .u64 a3], .agg #[.int .u64 b0, .int .u64 b1, .int .u64 b2, .int .u64 b3]] w fun e w' =>
      e = .returned (.agg #[.int .u64 (a0 ||| b0 : Nat), .int .u64 (a1 ||| b1 : Nat), .int .u64 (a2 ||| b2 : Nat), .int .u64 (a3 ||| b3 : Nat)]) ∧ Below w.heap.size w w' := by
  have e0 := or64 ha0 hb0
  have e1 := or64 ha1 hb1
  have e2 := or64 ha2 hb2
  have e3 := or64 ha3 hb3
  clear ha0 ha1 ha2 ha3 hb0 hb1 hb2 hb3
  go_enter Tryd.func15, Tryd.ntmps15
  go_wp2
  refine wp_loop_rounds 6 ?_
  rw [rounds_succ]; go_wp2
  go_region
  go_wp2
  rw [rounds_succ]; go_wp2
  go_region
  go_wp2
  rw [rounds_succ]; go_wp2
  go_region
  go_wp2
  rw [rounds_succ]; go_wp2
  go_region
  go_wp2
  rw [rounds_succ]; go_wp2
  refine bodyPost_ret (v := .agg #[.int .u64 (a0 ||| b0 : Nat), .int .u64 (a1 ||| b1 : Nat), .int .u64 (a2 ||| b2 : Nat), .int .u64 (a3 ||| b3 : Nat)]) (by simp [results, Tryd.results15, go_sem]) rfl ⟨rfl, ?_⟩
  go_grown


set_option maxHeartbeats 1000000 in
theorem wless_any (a0 a1 a2 a3 b0 b1 b2 b3 : Nat) (w : World) (ha0 : U64 a0) (ha1 : U64 a1) (ha2 : U64 a2) (ha3 : U64 a3) (hb0 : U64 b0) (hb1 : U64 b1) (hb2 : U64 b2) (hb3 : U64 b3) :
    Calls Tryd.prog 35 #[.agg #[.int .u64 a0, .int .u64 a1, .int .u64 a2, .int .u64 a3], .agg #[.int .u64 b0, .int .u64 b1, .int .u64 b2, .int .u64 b3]] w fun e w' =>
      e = .returned (.agg #[.int .u64 (a0 &&& neg64 b0 : Nat), .int .u64 (a1 &&& neg64 b1 : Nat), .int .u64 (a2 &&& neg64 b2 : Nat), .int .u64 (a3 &&& neg64 b3 : Nat)]) ∧ Below w.heap.size w w' := by
  have e0 := andNot64 ha0 hb0
  have e1 := andNot64 ha1 hb1
  have e2 := andNot64 ha2 hb2
  have e3 := andNot64 ha3 hb3
  clear ha0 ha1 ha2 ha3 hb0 hb1 hb2 hb3
  go_enter Tryd.func35, Tryd.ntmps35
  go_wp2
  refine wp_loop_rounds 6 ?_
  rw [rounds_succ]; go_wp2
  go_region
  go_wp2
  rw [rounds_succ]; go_wp2
  go_region
  go_wp2
  rw [rounds_succ]; go_wp2
  go_region
  go_wp2
  rw [rounds_succ]; go_wp2
  go_region
  go_wp2
  rw [rounds_succ]; go_wp2
  refine bodyPost_ret (v := .agg #[.int .u64 (a0 &&& neg64 b0 : Nat), .int .u64 (a1 &&& neg64 b1 : Nat), .int .u64 (a2 &&& neg64 b2 : Nat), .int .u64 (a3 &&& neg64 b3 : Nat)]) (by simp [results, Tryd.results35, go_sem]) rfl ⟨rfl, ?_⟩
  go_grown

end Go.Proofs.YtpoalgkgomljmaaDoor

namespace Go.Proofs.YtpoalgkgomljmaaDoor
open Go.RowKit

theorem alloc_drewN (w : World) (n : Nat) (o : Obj) : (w.drewN n).alloc o = (w.alloc o).drewN n := rfl
theorem setCell_drewN (w : World) (n : Nat) (a : Addr) (v : Value) : (w.drewN n).setCell a v = (w.setCell a v).drewN n := rfl
theorem below_drewN {B : Nat} {a w : World} (h : Below B a w) (n : Nat) : Below B a (w.drewN n) := ⟨h.os, h.tape, h.output, h.size, h.block⟩
attribute [local go_sem] alloc_drewN setCell_drewN

theorem and127 (X : Int) : (bits .and .i64 X 127).toNat ≤ 127 ∧ bits .and .i64 X 127 = ((bits .and .i64 X 127).toNat : Int) := by
  have h : bits .and .i64 X 127 = IntKind.i64.wrap ((BitVec.ofInt 64 X &&& BitVec.ofInt 64 127).toNat : Int) := rfl
  have hle : (BitVec.ofInt 64 X &&& BitVec.ofInt 64 127).toNat ≤ 127 := by
    rw [BitVec.toNat_and]
    exact Nat.le_trans Nat.and_le_right (by decide)
  rw [h, IntKind.wrap_i64]
  omega

set_option maxHeartbeats 1000000 in
theorem count_any (a : Nat) (w : World) :
    Calls Tryd.prog 26 #[.int .u64 a] w fun e w' => (∃ n : Nat, n ≤ 127 ∧ e = .returned (.int .i64 n)) ∧ w = w' := by
  go_enter Tryd.func26, Tryd.ntmps26
  go_wp2
  go_ret
  exact ⟨⟨_, (and127 _).1, ret_int (and127 _).2⟩, rfl⟩

theorem run_words_eq (a0 a1 a2 a3 : Nat) (W : World) :
    (Op.equalIn 10000 48 (.agg #[.int .u64 a0, .int .u64 a1, .int .u64 a2, .int .u64 a3]) (.agg #[.int .u64 0, .int .u64 0, .int .u64 0, .int .u64 0])).run Tryd.prog W = .ok (decide (a0 = 0 ∧ a1 = 0 ∧ a2 = 0 ∧ a3 = 0)) W := by
  obtain ⟨i, hi⟩ : ∃ i, Tryd.prog.info? 46 = some i := by
    cases h : Tryd.prog.info? 46 with
    | none => exact absurd (show (Tryd.prog.info? 46).isSome = true by kernel_rfl) (by rw [h]; simp)
    | some i => exact ⟨i, rfl⟩
  have hc : Tryd.prog.cellsOf 46 = 1 := by kernel_rfl
  rw [show (10000 : Nat) = 9999 + 1 from rfl, run_equalIn_array W 9999 _ _ Tryd.underlying48 hi, hc]
  have hu := Tryd.underlying46
  have hs := fun a => run_equalIn_int (P := Tryd.prog) W 9998 46 .u64 .u64 a 0 hu
  rw [show List.range 4 = [0, 1, 2, 3] from rfl]
  by_cases h0 : a0 = 0 <;> by_cases h1 : a1 = 0 <;> by_cases h2 : a2 = 0 <;> by_cases h3 : a3 = 0 <;>
    simp [Op.eqItems, part, isAgg, run_underlying hu, hs, h0, h1, h2, h3]


theorem put64 {a r : Nat} (ha : U64 a) (hr : r < 64) : bits .or .u64 (a : Int) (IntKind.u64.wrap (2 ^ r)) = ((a ||| 2 ^ r : Nat) : Int) := by
  have h2 := two_pow_small r hr
  have e : IntKind.u64.wrap (2 ^ r) = ((2 ^ r : Nat) : Int) := by
    rw [IntKind.wrap_u64]
    have : ((2 : Int) ^ r) = ((2 ^ r : Nat) : Int) := by simp
    rw [this]
    generalize (2 ^ r : Nat) = y at *
    omega
  rw [e]
  exact u64_or_nat a (2 ^ r) ha h2

theorem four_lt {p : Int → Bool} {a0 a1 a2 a3 : Nat} (h : Four p a0 a1 a2 a3) : U64 a0 ∧ U64 a1 ∧ U64 a2 ∧ U64 a3 := by
  obtain ⟨rfl, rfl, rfl, rfl⟩ := h
  exact ⟨wordOf_lt _ _, wordOf_lt _ _, wordOf_lt _ _, wordOf_lt _ _⟩
theorem inB_take (xs : List Int) (k : Nat) (hk : k < xs.length) (x : Nat) (hx : xs.getD k 0 = x) : inB (xs.take (k + 1)) = fun n => inB (xs.take k) n || n == (x : Int) := by
  funext n
  unfold inB
  have e : xs.take (k + 1) = xs.take k ++ [(x : Int)] := by
    rw [List.take_succ_eq_append_getElem hk, ← hx]; simp [List.getD, hk]
  rw [e, Bool.eq_iff_iff]
  simp
theorem inB_take_zero (xs : List Int) : Four (inB (xs.take 0)) 0 0 0 0 := by
  have h : ∀ i, wordOf (inB (xs.take 0)) i = 0 := fun i => bitsTo_zero.2 fun j _ => by simp [inB]
  exact ⟨(h 0).symm, (h 1).symm, (h 2).symm, (h 3).symm⟩
theorem four_put0 {xs : List Int} {k x r a0 a1 a2 a3 : Nat} (hk : k < xs.length) (hx : xs.getD k 0 = x) (h : Four (inB (xs.take k)) a0 a1 a2 a3) (hr : r < 64) (hm : x = 64 * 0 + r) : Four (inB (xs.take (k + 1))) (a0 ||| 2 ^ r) a1 a2 a3 := by
  rw [inB_take xs k hk x hx]
  obtain ⟨rfl, rfl, rfl, rfl⟩ := h
  exact ⟨by rw [wordOf_put _ x 0 r hr (by omega)], (wordOf_put_other _ x 1 (by omega)).symm, (wordOf_put_other _ x 2 (by omega)).symm, (wordOf_put_other _ x 3 (by omega)).symm⟩
theorem four_put1 {xs : List Int} {k x r a0 a1 a2 a3 : Nat} (hk : k < xs.length) (hx : xs.getD k 0 = x) (h : Four (inB (xs.take k)) a0 a1 a2 a3) (hr : r < 64) (hm : x = 64 * 1 + r) : Four (inB (xs.take (k + 1))) a0 (a1 ||| 2 ^ r) a2 a3 := by
  rw [inB_take xs k hk x hx]
  obtain ⟨rfl, rfl, rfl, rfl⟩ := h
  exact ⟨(wordOf_put_other _ x 0 (by omega)).symm, by rw [wordOf_put _ x 1 r hr (by omega)], (wordOf_put_other _ x 2 (by omega)).symm, (wordOf_put_other _ x 3 (by omega)).symm⟩
theorem four_put2 {xs : List Int} {k x r a0 a1 a2 a3 : Nat} (hk : k < xs.length) (hx : xs.getD k 0 = x) (h : Four (inB (xs.take k)) a0 a1 a2 a3) (hr : r < 64) (hm : x = 64 * 2 + r) : Four (inB (xs.take (k + 1))) a0 a1 (a2 ||| 2 ^ r) a3 := by
  rw [inB_take xs k hk x hx]
  obtain ⟨rfl, rfl, rfl, rfl⟩ := h
  exact ⟨(wordOf_put_other _ x 0 (by omega)).symm, (wordOf_put_other _ x 1 (by omega)).symm, by rw [wordOf_put _ x 2 r hr (by omega)], (wordOf_put_other _ x 3 (by omega)).symm⟩
theorem four_put3 {xs : List Int} {k x r a0 a1 a2 a3 : Nat} (hk : k < xs.length) (hx : xs.getD k 0 = x) (h : Four (inB (xs.take k)) a0 a1 a2 a3) (hr : r < 64) (hm : x = 64 * 3 + r) : Four (inB (xs.take (k + 1))) a0 a1 a2 (a3 ||| 2 ^ r) := by
  rw [inB_take xs k hk x hx]
  obtain ⟨rfl, rfl, rfl, rfl⟩ := h
  exact ⟨(wordOf_put_other _ x 0 (by omega)).symm, (wordOf_put_other _ x 1 (by omega)).symm, (wordOf_put_other _ x 2 (by omega)).symm, by rw [wordOf_put _ x 3 r hr (by omega)]⟩

set_option maxHeartbeats 2000000 in
theorem pack_yes (A : Option Addr) (n c : Nat) (xs : List Int) (w : World) (hr : RI w w.heap.size A n xs) (hn : n ≤ maxLen) (hset : rightB xs = true) :
    Calls Tryd.prog 25 #[.slice A n c] w fun e w' => (∃ a0 a1 a2 a3 : Nat, Four (inB xs) a0 a1 a2 a3 ∧ e = .returned (.tuple #[.agg #[.int .u64 a0, .int .u64 a1, .int .u64 a2, .int .u64 a3], .bool true])) ∧ Below w.heap.size w w' := by
  have HS := Lib.hid hset
  clear hset
  have HLEN := Lib.hid hr.1
  go_enter Tryd.func25, Tryd.ntmps25
  go_wp2_with (go_at_call 7; refine (right_any _ _ _ xs _ w.heap.size (hr.below (by go_grown)) hn).mono ?_; rintro e w' ⟨rfl, rfl⟩; rw [HS.out])
  unfold maxLen at hn
  go_loopw [13] (fun i wr => ∃ k : Nat, k ≤ n ∧ i = .int .i64 k ∧ ∃ a0 a1 a2 a3 : Nat, Four (inB (xs.take k)) a0 a1 a2 a3 ∧ ∃ q, wr = ((w.alloc (.cells #[.int .u64 0, .int .u64 0, .int .u64 0, .int .u64 0] 48)).alloc (.cells #[.int .u64 a0, .int .u64 a1, .int .u64 a2, .int .u64 a3] 48)).drewN q)
    (fun i _ => n - (intOf i).toNat)
  case atStart => exact ⟨0, Nat.zero_le _, rfl, 0, 0, 0, 0, inB_take_zero xs, 0, rfl⟩
  case round =>
    obtain ⟨k, hk, rfl, a0, a1, a2, a3, h4, q, rfl⟩ := hrel
    have H4 := Lib.hid h4
    clear h4
    by_cases hlt : k < n
    · obtain ⟨b, off, rfl, hb, hc⟩ := hr.2 (by omega)
      have hck := hc k hlt
      clear hc hr
      have HKL : Hid (k < xs.length) := Lib.hid (by have := HLEN.out; omega)
      have hb0 := right_mem HS.out (xs.getD k 0) (by have := HKL.out; simp [List.getD, this])
      obtain ⟨x, hx⟩ : ∃ x : Nat, xs.getD k 0 = x := ⟨(xs.getD k 0).toNat, by omega⟩
      have HX := Lib.hid hx
      rw [hx] at hck hb0
      clear hx
      have hx255 : x ≤ 255 := by omega
      clear hb0
      obtain ⟨r, hr⟩ : ∃ r, r = x % 64 := ⟨_, rfl⟩
      have hr64 : r < 64 := by omega
      have hm : (x : Int) % 64 = (r : Int) := by omega
      have Hr := Lib.hid hr
      clear hr
      have hi : x / 64 = 0 ∨ x / 64 = 1 ∨ x / 64 = 2 ∨ x / 64 = 3 := by omega
      obtain ⟨l0, l1, l2, l3⟩ := four_lt H4.out
      rcases hi with hi | hi | hi | hi
      · have hd : (x : Int) / 64 = 0 := by omega
        have HF := Lib.hid (four_put0 HKL.out HX.out H4.out hr64 (by have := Hr.out; omega))
        have hput := put64 l0 hr64
        clear hi l0 l1 l2 l3
        go_wp2
        go_region
        go_wp2
        go_roundw
        case rel => exact ⟨k + 1, by omega, by go_num, _, _, _, _, HF.out, q + 1, rfl⟩
        case measure => simp [intOf]; omega
      · have hd : (x : Int) / 64 = 1 := by omega
        have HF := Lib.hid (four_put1 HKL.out HX.out H4.out hr64 (by have := Hr.out; omega))
        have hput := put64 l1 hr64
        clear hi l0 l1 l2 l3
        go_wp2
        go_region
        go_wp2
        go_roundw
        case rel => exact ⟨k + 1, by omega, by go_num, _, _, _, _, HF.out, q + 1, rfl⟩
        case measure => simp [intOf]; omega
      · have hd : (x : Int) / 64 = 2 := by omega
        have HF := Lib.hid (four_put2 HKL.out HX.out H4.out hr64 (by have := Hr.out; omega))
        have hput := put64 l2 hr64
        clear hi l0 l1 l2 l3
        go_wp2
        go_region
        go_wp2
        go_roundw
        case rel => exact ⟨k + 1, by omega, by go_num, _, _, _, _, HF.out, q + 1, rfl⟩
        case measure => simp [intOf]; omega
      · have hd : (x : Int) / 64 = 3 := by omega
        have HF := Lib.hid (four_put3 HKL.out HX.out H4.out hr64 (by have := Hr.out; omega))
        have hput := put64 l3 hr64
        clear hi l0 l1 l2 l3
        go_wp2
        go_region
        go_wp2
        go_roundw
        case rel => exact ⟨k + 1, by omega, by go_num, _, _, _, _, HF.out, q + 1, rfl⟩
        case measure => simp [intOf]; omega
    · have hkn : k = n := by omega
      subst hkn
      go_wp2
      refine bodyPost_ret (v := .tuple #[.agg #[.int .u64 a0, .int .u64 a1, .int .u64 a2, .int .u64 a3], .bool true]) (by simp [results, Tryd.results25, go_sem]) rfl ⟨⟨a0, a1, a2, a3, ?_, rfl⟩, ?_⟩
      · have h := H4.out
        rwa [List.take_of_length_le (by have := HLEN.out; omega)] at h
      · exact below_drewN (by go_grown) _

set_option maxHeartbeats 1000000 in
theorem pack_no (A : Option Addr) (n c : Nat) (xs : List Int) (w : World) (hr : RI w w.heap.size A n xs) (hn : n ≤ maxLen) (hset : rightB xs = false) :
    Calls Tryd.prog 25 #[.slice A n c] w fun e w' => e = .returned (.tuple #[.agg #[.int .u64 0, .int .u64 0, .int .u64 0, .int .u64 0], .bool false]) ∧ Below w.heap.size w w' := by
  have HS := Lib.hid hset
  clear hset
  go_enter Tryd.func25, Tryd.ntmps25
  go_wp2_with (go_at_call 7; refine (right_any _ _ _ xs _ w.heap.size (hr.below (by go_grown)) hn).mono ?_; rintro e w' ⟨rfl, rfl⟩; rw [HS.out])
  refine bodyPost_ret (v := .tuple #[.agg #[.int .u64 0, .int .u64 0, .int .u64 0, .int .u64 0], .bool false]) (by simp [results, Tryd.results25, go_sem]) rfl ⟨rfl, by go_grown⟩

/-- 'some words, which are the set's if it is one', kept from the walk -/
def IsPack (xs : List Int) (a0 a1 a2 a3 : Nat) : Prop := rightB xs = true → Four (inB xs) a0 a1 a2 a3
def PackPost (xs : List Int) (B : Nat) (w : World) (e : Ending) (w' : World) : Prop :=
  (∃ a0 a1 a2 a3 : Nat, IsPack xs a0 a1 a2 a3 ∧ e = .returned (.tuple #[.agg #[.int .u64 a0, .int .u64 a1, .int .u64 a2, .int .u64 a3], .bool (rightB xs)])) ∧ Below B w w'
theorem pack_any (A : Option Addr) (n c : Nat) (xs : List Int) (w : World) (hr : RI w w.heap.size A n xs) (hn : n ≤ maxLen) :
    Calls Tryd.prog 25 #[.slice A n c] w (PackPost xs w.heap.size w) := by
  cases h : rightB xs with
  | false => exact (pack_no A n c xs w hr hn h).mono fun e w' ⟨he, hb⟩ => ⟨⟨0, 0, 0, 0, fun hh => (by rw [h] at hh; cases hh), by rw [he, h]; rfl⟩, hb⟩
  | true => exact (pack_yes A n c xs w hr hn h).mono fun e w' ⟨⟨a0, a1, a2, a3, h4, he⟩, hb⟩ => ⟨⟨a0, a1, a2, a3, fun _ => h4, by rw [he, h]⟩, hb⟩

end Go.Proofs.YtpoalgkgomljmaaDoor

namespace Go.Proofs
open Go.Shelf
open Go.RowKit
def Tryd.tzRen : Go.Shelf.Ren := ⟨fun | 29 => 27 | n => n, fun | 22 => 46 | 3 => 3 | 4 => 4 | 25 => 69 | 54 => 70 | 0 => 0 | 5 => 5 | n => n, fun | 1 => 0 | n => n⟩
theorem Tryd.tzLays : Go.Proofs.Lays7.n29 Tryd.prog Tryd.tzRen := {
  mixed := by kernel_rfl
  f29 := Tryd.func27.trans (congrArg some (by kernel_rfl))
  t0 := Tryd.underlying0
  a0 := Tryd.isAgg0
  z0 := Tryd.sizeOf0
  v0 := Tryd.zeroValue0
  i0 := by kernel_rfl
  t3 := Tryd.underlying3
  a3 := Tryd.isAgg3
  z3 := Tryd.sizeOf3
  v3 := Tryd.zeroValue3
  i3 := by kernel_rfl
  t4 := Tryd.underlying4
  a4 := Tryd.isAgg4
  z4 := Tryd.sizeOf4
  v4 := Tryd.zeroValue4
  i4 := by kernel_rfl
  t5 := Tryd.underlying5
  a5 := Tryd.isAgg5
  z5 := Tryd.sizeOf5
  v5 := Tryd.zeroValue5
  i5 := by kernel_rfl
  t22 := Tryd.underlying46
  a22 := Tryd.isAgg46
  z22 := Tryd.sizeOf46
  v22 := Tryd.zeroValue46
  i22 := by kernel_rfl
  t25 := Tryd.underlying69
  a25 := Tryd.isAgg69
  z25 := Tryd.sizeOf69
  v25 := Tryd.zeroValue69
  i25 := by kernel_rfl
  t54 := Tryd.underlying70
  a54 := Tryd.isAgg70
  z54 := Tryd.sizeOf70
  g1 := by kernel_rfl }
theorem Tryd.tz64 (x : Nat) (hx : x < 18446744073709551616) (w : World) (hT : x ≠ 0 → TabAt 0 Lib.deBruijn64tab w) :
    Calls Tryd.prog 27 #[.int .u64 x] w fun e w' => e = .returned (.int .i64 (Lib.ctz 64 x)) ∧ w' = w := Any7.bits_TrailingZeros64 Tryd.tzLays x hx w hT
end Go.Proofs

namespace Go.Proofs.YtpoalgkgomljmaaDoor
open Go.RowKit
open Go.Shelf

theorem tz_any (x : Nat) (hx : U64 x) (w : World) (hT : TabAt 0 Lib.deBruijn64tab w) :
    Calls Tryd.prog 27 #[.int .u64 x] w fun e w' => e = .returned (.int .i64 (Lib.ctz 64 x)) ∧ w = w' :=
  (Tryd.tz64 x hx w (fun _ => hT)).mono fun _ _ ⟨h1, h2⟩ => ⟨h1, h2.symm⟩
theorem tab_below {B : Nat} {w w' : World} (h : TabAt 0 Lib.deBruijn64tab w) (hb : Below B w w') (hB : 0 < B) : TabAt 0 Lib.deBruijn64tab w' := fun j hj =>
  (hb.cell (p := ⟨0, j, none⟩) hB).trans (h j hj)
theorem tab_alloc {w : World} (h : TabAt 0 Lib.deBruijn64tab w) (hB : 0 < w.heap.size) (o : Obj) : TabAt 0 Lib.deBruijn64tab (w.alloc o) :=
  tab_below h (Below.alloc (Below.refl w.heap.size w) (Nat.le_refl _) o) hB
theorem pred64 {x : Nat} (hx : U64 x) (h0 : 0 < x) : bits .and .u64 (x : Int) (IntKind.u64.wrap ((x : Int) - 1)) = ((x &&& (x - 1) : Nat) : Int) := by
  have hx' : x < 18446744073709551616 := hx
  have e : IntKind.u64.wrap ((x : Int) - 1) = ((x - 1 : Nat) : Int) := by rw [IntKind.wrap_u64]; omega
  rw [e]
  exact u64_and_nat x (x - 1) hx (by omega)

/-- where the inner loop stands in word i -/
def ListRel (p : Int → Bool) (w : World) (B : Nat) (i : Nat) (v x : Value) (wr : World) : Prop :=
  ∃ t : Nat, t ≤ 64 ∧ x = .int .u64 (wordFrom p i t) ∧ wr.ownsRow B 3 1 v (pickN p 0 (64 * i + t)).length ((pickN p 0 (64 * i + t)).map (Value.int .i64)) ∧ Below B w wr

theorem pickN_len (p : Int → Bool) (k : Nat) : (pickN p 0 k).length ≤ k := length_pickN p k 0

theorem run_ix0 (a0 a1 a2 a3 : Nat) (W : World) : (Instr.index 48 (.agg #[.int .u64 a0, .int .u64 a1, .int .u64 a2, .int .u64 a3]) (.int .i64 0)).run Tryd.prog W = .ok (.int .u64 a0) W := by
  simp [Instr.index, run_underlying Tryd.underlying48, asIntOf, part, isAgg, run_underlying Tryd.underlying46, Tryd.sizeOf46]
theorem run_ix1 (a0 a1 a2 a3 : Nat) (W : World) : (Instr.index 48 (.agg #[.int .u64 a0, .int .u64 a1, .int .u64 a2, .int .u64 a3]) (.int .i64 1)).run Tryd.prog W = .ok (.int .u64 a1) W := by
  simp [Instr.index, run_underlying Tryd.underlying48, asIntOf, part, isAgg, run_underlying Tryd.underlying46, Tryd.sizeOf46]
theorem run_ix2 (a0 a1 a2 a3 : Nat) (W : World) : (Instr.index 48 (.agg #[.int .u64 a0, .int .u64 a1, .int .u64 a2, .int .u64 a3]) (.int .i64 2)).run Tryd.prog W = .ok (.int .u64 a2) W := by
  simp [Instr.index, run_underlying Tryd.underlying48, asIntOf, part, isAgg, run_underlying Tryd.underlying46, Tryd.sizeOf46]
theorem run_ix3 (a0 a1 a2 a3 : Nat) (W : World) : (Instr.index 48 (.agg #[.int .u64 a0, .int .u64 a1, .int .u64 a2, .int .u64 a3]) (.int .i64 3)).run Tryd.prog W = .ok (.int .u64 a3) W := by
  simp [Instr.index, run_underlying Tryd.underlying48, asIntOf, part, isAgg, run_underlying Tryd.underlying46, Tryd.sizeOf46]

theorem run_ixk {p : Int → Bool} {a0 a1 a2 a3 : Nat} (h : Four p a0 a1 a2 a3) (k : Nat) (hk : k < 4) (W : World) :
    (Instr.index 48 (.agg #[.int .u64 a0, .int .u64 a1, .int .u64 a2, .int .u64 a3]) (.int .i64 (k : Int))).run Tryd.prog W = .ok (.int .u64 (wordFrom p k 0 : Nat)) W := by
  obtain ⟨rfl, rfl, rfl, rfl⟩ := h
  rw [wordFrom_zero]
  have hk' : k = 0 ∨ k = 1 ∨ k = 2 ∨ k = 3 := by omega
  rcases hk' with rfl | rfl | rfl | rfl
  · exact run_ix0 _ _ _ _ W
  · exact run_ix1 _ _ _ _ W
  · exact run_ix2 _ _ _ _ W
  · exact run_ix3 _ _ _ _ W

/-- what an append leaves of the relation -/
theorem list_step {p : Int → Bool} {w wr w1 : World} {v v' : Value} {k t : Nat} {o : Obj} (hne : wordFrom p k t ≠ 0) (hb : Below w.heap.size w wr)
    (hown : wr.ownsRow w.heap.size 3 1 v (pickN p 0 (64 * k + t)).length ((pickN p 0 (64 * k + t)).map (Value.int .i64)))
    (hown' : w1.ownsRow w.heap.size 3 1 v' ((pickN p 0 (64 * k + t)).length + 1) ((pickN p 0 (64 * k + t)).map (Value.int .i64) ++ [.int .i64 ((k : Int) * 64 + (Lib.ctz 64 (wordFrom p k t) : Nat))])) (hgrow : (wr.alloc o).grownBy w1 v.ownBlock) :
    ListRel p w w.heap.size k v' (.int .u64 (wordFrom p k t &&& (wordFrom p k t - 1) : Nat)) w1 := by
  obtain ⟨h1, h2, h3, h4, h5⟩ := wordFrom_next hne
  have ht := wordFrom_take hne
  refine ⟨Lib.ctz 64 (wordFrom p k t) + 1, by omega, by rw [h5], ?_, ?_⟩
  · rw [ht, List.length_append, List.map_append]
    have e : (((64 * k + Lib.ctz 64 (wordFrom p k t) : Nat) : Int)) = (k : Int) * 64 + (Lib.ctz 64 (wordFrom p k t) : Nat) := by
      generalize Lib.ctz 64 (wordFrom p k t) = c
      omega
    rw [e]
    exact hown'
  · exact (hb.alloc hb.size o).grown hgrow (by have := hb.size; simp; omega) (fun j hj => (hown.lt j hj).1)

set_option maxRecDepth 100000 in
set_option maxHeartbeats 2000000 in
theorem list_any (p : Int → Bool) (a0 a1 a2 a3 : Nat) (h4 : Four p a0 a1 a2 a3) (w : World) (hT : TabAt 0 Lib.deBruijn64tab w) (hB : 0 < w.heap.size) :
    Calls Tryd.prog 16 #[.agg #[.int .u64 a0, .int .u64 a1, .int .u64 a2, .int .u64 a3]] w fun e w' =>
      (∃ v, e = .returned v ∧ w'.ownsRow w.heap.size 3 1 v (pickL p).length ((pickL p).map (Value.int .i64))) ∧ Below w.heap.size w w' := by
  obtain ⟨i0, hi, hz0, hz1, hz2⟩ := info_parts int_info
  have H4 := Lib.hid h4
  have HTAB := Lib.hid hT
  clear h4 hT
  have x0 := run_ix0 a0 a1 a2 a3
  have x1 := run_ix1 a0 a1 a2 a3
  have x2 := run_ix2 a0 a1 a2 a3
  have x3 := run_ix3 a0 a1 a2 a3
  go_enter Tryd.func16, Tryd.ntmps16
  go_wp2
  refine wp_loop_rounds 6 ?_
  rw [rounds_succ]
  go_wp2_with (go_at_call 26; refine (count_any _ _).mono ?_; rintro e w' ⟨⟨n0, hn0, rfl⟩, rfl⟩)
  rw [rounds_succ]
  go_wp2_with (go_at_call 26; refine (count_any _ _).mono ?_; rintro e w' ⟨⟨n1, hn1, rfl⟩, rfl⟩)
  rw [rounds_succ]
  go_wp2_with (go_at_call 26; refine (count_any _ _).mono ?_; rintro e w' ⟨⟨n2, hn2, rfl⟩, rfl⟩)
  rw [rounds_succ]
  go_wp2_with (go_at_call 26; refine (count_any _ _).mono ?_; rintro e w' ⟨⟨n3, hn3, rfl⟩, rfl⟩)
  rw [rounds_succ]
  go_wp2_with (at_make; refine wpList_make_own _ rfl _ _ 23 rfl w.heap.size 3 i0 (.int .i64 0) 1 Tryd.underlying23 hi hz0 hz1 .i64 .i64 _ (n0 + n1 + n2 + n3) rfl rfl (by omega) (by rw [hz2]; omega) (by unfold maxLen; omega) (by simp) ?_; intro w1 hown1 hgrow1; refine Hid.out ?_)
  refine Lib.hid ?_
  have hb1 : Below w.heap.size w w1 := (Below.alloc (Below.refl _ w) (Nat.le_refl _) _).grown hgrow1 (by simp) (fun k hk => by cases hk)
  have hc1 : ∀ i v, (w.alloc (.cells #[.int .u64 a0, .int .u64 a1, .int .u64 a2, .int .u64 a3] 48)).cell? ⟨w.heap.size, i, none⟩ = some v → w1.cell? ⟨w.heap.size, i, none⟩ = some v := fun i v h => hgrow1.cell h (by simp)
  have c0 := hc1 0 (.int .u64 a0) (by go_simp)
  have c1 := hc1 1 (.int .u64 a1) (by go_simp)
  have c2 := hc1 2 (.int .u64 a2) (by go_simp)
  have c3 := hc1 3 (.int .u64 a3) (by go_simp)
  clear hc1 hgrow1 hn0 hn1 hn2 hn3 x0 x1 x2 x3
  go_wp2
  clear c0 c1 c2 c3
  go_loopw [6, 21] (fun v i wr => ∃ k : Nat, k ≤ 4 ∧ i = .int .i64 k ∧ wr.ownsRow w.heap.size 3 1 v (pickN p 0 (64 * k)).length ((pickN p 0 (64 * k)).map (Value.int .i64)) ∧ Below w.heap.size w wr) (fun _ i _ => 4 - (intOf i).toNat)
  case atStart => exact ⟨0, by omega, rfl, by simp at hown1; exact hown1, hb1⟩
  case round =>
    obtain ⟨k, hk, rfl, hownk, hbk⟩ := hrel
    clear hown1 hb1
    by_cases hk4 : k < 4
    · have hix := run_ixk H4.out k hk4
      have hd4 : decide ((k : Int) < 4) = true := by simp; omega
      go_wp2
      clear hix
      go_loopw [6, 8] (fun v x wr => ListRel p w w.heap.size k v x wr) (fun _ x _ => (intOf x).toNat)
      case atStart => exact ⟨0, by omega, rfl, hownk, hbk⟩
      case round =>
        obtain ⟨t, ht, rfl, hown, hb⟩ := hrel
        clear hownk hbk
        by_cases hx : wordFrom p k t = 0
        · have hdone := Lib.hid (wordFrom_done ht hx)
          rw [hx]
          go_wp2
          go_roundw
          case rel => exact ⟨k + 1, by omega, by go_num, by rw [← hdone.out]; exact hown, hb⟩
          case measure => simp [intOf]; omega
        · have HX := Lib.hid hx
          have hx0 : 0 < wordFrom p k t := by omega
          have hlen := pickN_len p (64 * k + t)
          have hc64 := (wordFrom_next hx).1
          have hp := pred64 (wordFrom_lt p k t) hx0
          have hstep := Lib.hid (fun w1 v' o a b => @list_step p w wr w1 _ v' k t o hx hb hown a b)
          clear hx
          have hkk : k < 4 := hk4
          generalize hX : wordFrom p k t = x at *
          have HXX := Lib.hid hX
          clear hX
          have hxu : Hid (U64 x) := Lib.hid (by have := wordFrom_lt p k t; rw [HXX.out] at this; exact this)
          generalize hL : pickN p 0 (64 * k + t) = L at *
          have HL := Lib.hid hL
          clear hL
          go_wp2_with (first
            | (go_at_call 27; refine (tz_any x hxu.out _ (tab_below HTAB.out hb hB)).mono ?_; rintro e w' ⟨rfl, rfl⟩)
            | (at_builtin; refine wpList_append_own _ rfl (.tmp 27) (.tmp 33) 23 rfl w.heap.size 3 i0 (.int .i64 0) 1 8 Tryd.underlying23 hi hz0 hz1 hz2 rfl (by decide) _ _ _ rfl (hown.alloc _) ⟨wr.heap.size, 0, none⟩ 1 1 [.int .i64 ((k : Int) * 64 + (Lib.ctz 64 x : Nat))] rfl rfl ?c1 ?c2 ?c3 ?c4 ?c5 ?_))
          case c1 =>
            intro j u hj
            match j, hj with
            | 0, hj => simp at hj; subst hj; simp [Addr.add]
          case c2 => intro u hu; simp at hu; subst hu; rfl
          case c3 => unfold maxLen; omega
          case c4 => omega
          case c5 => have := hb.size; simp; omega
          intro v' w2 hown' hgrow _
          have R := Lib.hid (hstep.out w2 v' _ hown' hgrow)
          clear hown' hgrow
          go_wp2
          go_roundw
          case rel => exact R.out
          case measure =>
            simp only [intOf]
            have : x &&& (x - 1) ≤ x - 1 := Nat.and_le_right
            simp
            omega
    · have hkn : k = 4 := by omega
      subst hkn
      go_wp2
      go_ret
      exact ⟨⟨_, rfl, hownk⟩, hbk⟩

end Go.Proofs.YtpoalgkgomljmaaDoor

namespace Go.Proofs.YtpoalgkgomljmaaDoor
open Go.RowKit
open Go.Shelf

def Glob (w : World) : Prop := (w = w)
  ∧ 0 < w.heap.size ∧ TabAt 0 Lib.deBruijn64tab w
theorem Glob.next {w w' : World} (h : Glob w) (hb : Below w.heap.size w w') : Glob w' := by
  have _h := h
  have _hb := hb
  first
    | exact rfl
    | exact ⟨rfl, Nat.lt_of_lt_of_le h.2.1 hb.size, tab_below h.2.2 hb h.2.1⟩
theorem Glob.pos {w : World} (h : Glob w) : 0 < w.heap.size := h.2.1
theorem Glob.tz {w : World} (h : Glob w) : TabAt 0 Lib.deBruijn64tab w := h.2.2

end Go.Proofs.YtpoalgkgomljmaaDoor

namespace Go.Proofs.YtpoalgkgomljmaaDoor
open Go.RowKit

/-- a holding as an element: four cells, one of them a slice of numbers -/
def EH : Elem Hd := fun w ok x vs => ∃ A m c, vs = [.int .i64 x.id, .slice A m c, .int .i64 x.frm, .int .i64 x.to] ∧ RN EI 1 w ok A m x.things ∧ (A = none → c = 0) ∧ m ≤ c ∧ m ≤ maxLen ∧ (I64 x.id ∧ I64 x.frm ∧ I64 x.to ∧ ∀ n ∈ x.things, I64 n)
theorem eh_steady : Steady EH := ⟨fun ⟨A, m, c, h1, h2, h3⟩ hk ho => ⟨A, m, c, h1, h2.keep ei_steady hk ho, h3⟩⟩
/-- '.slice A n c' reads as the table l, all below block B -/
def RT (w : World) (B : Nat) (A : Option Addr) (n : Nat) (l : Tb) : Prop := RN EH 4 w (Lt B) A n l
/-- a holding by value: what is asked of it -/
structure HAsk (w : World) (A : Option Addr) (m c : Nat) (h : Hd) : Prop where
  reads : RI w w.heap.size A m h.things
  nil : A = none → c = 0
  cap : m ≤ c
  few : m ≤ maxLen
  int : I64 h.id ∧ I64 h.frm ∧ I64 h.to ∧ ∀ n ∈ h.things, I64 n
def hV (h : Hd) (A : Option Addr) (m c : Nat) : Value := .agg #[.int .i64 h.id, .slice A m c, .int .i64 h.frm, .int .i64 h.to]
section
variable {w w' : World} {B n m c : Nat} {A : Option Addr} {l : Tb} {h : Hd}
theorem HAsk.next (h0 : HAsk w A m c h) (hb : Below w.heap.size w w') : HAsk w' A m c h := ⟨h0.reads.next hb, h0.nil, h0.cap, h0.few, h0.int⟩
theorem RT.len (h : RT w B A n l) : l.length = n := h.1
theorem RT.nil : RT w B A 0 [] := RN.nil
theorem RT.next (h : RT w w.heap.size A n l) (hb : Below w.heap.size w w') : RT w' w'.heap.size A n l := RN.next eh_steady h hb
theorem RT.below (h : RT w B A n l) (hb : Below B w w') : RT w' B A n l := RN.below eh_steady h hb
theorem RT.drewN (h : RT w B A n l) (k : Nat) : RT (w.drewN k) B A n l := RN.drewN h eh_steady k
/-- the k-th holding: its cells, and what is asked of it -/
theorem RT.one (h : RT w w.heap.size A n l) {k : Nat} (hk : k < n) : ∃ b off A2 m2 c2, A = some ⟨b, off, none⟩ ∧ b < w.heap.size ∧ w.cell? ⟨b, off + k * 4, none⟩ = some (.int .i64 (l.getD k hd0).id) ∧ w.cell? ⟨b, off + k * 4 + 1, none⟩ = some (.slice A2 m2 c2) ∧ w.cell? ⟨b, off + k * 4 + 2, none⟩ = some (.int .i64 (l.getD k hd0).frm) ∧ w.cell? ⟨b, off + k * 4 + 3, none⟩ = some (.int .i64 (l.getD k hd0).to) ∧ HAsk w A2 m2 c2 (l.getD k hd0) := by
  have hl : k < l.length := by rw [h.1]; exact hk
  obtain ⟨b, off, vs, e, hb, _, hc, A2, m2, c2, hv, hr, h1, h2, h3, h4⟩ := RN.at h (List.getElem?_eq_getElem hl)
  subst hv
  have hg : l.getD k hd0 = l[k] := by rw [List.getD, List.getElem?_eq_getElem hl]; rfl
  rw [hg]
  exact ⟨b, off, A2, m2, c2, e, hb, hc 0 _ rfl, hc 1 _ rfl, hc 2 _ rfl, hc 3 _ rfl, ⟨RN.ri hr, h1, h2, h3, h4⟩⟩
end
/-- the k-th holding, as an element -/
theorem RT.el {w : World} {B n : Nat} {A : Option Addr} {l : Tb} (h : RT w B A n l) {k : Nat} (hk : k < n) : ∃ b off A2 m2 c2, A = some ⟨b, off, none⟩ ∧ b < B ∧ w.cell? ⟨b, off + k * 4, none⟩ = some (.int .i64 (l.getD k hd0).id) ∧ w.cell? ⟨b, off + k * 4 + 1, none⟩ = some (.slice A2 m2 c2) ∧ w.cell? ⟨b, off + k * 4 + 2, none⟩ = some (.int .i64 (l.getD k hd0).frm) ∧ w.cell? ⟨b, off + k * 4 + 3, none⟩ = some (.int .i64 (l.getD k hd0).to) ∧ EH w (Lt B) (l.getD k hd0) [.int .i64 (l.getD k hd0).id, .slice A2 m2 c2, .int .i64 (l.getD k hd0).frm, .int .i64 (l.getD k hd0).to] := by
  have hl : k < l.length := by rw [h.1]; exact hk
  obtain ⟨b, off, vs, e, hb, _, hc, hE⟩ := RN.at h (List.getElem?_eq_getElem hl)
  obtain ⟨A2, m2, c2, hv, h5⟩ := id hE
  subst hv
  have hg : l.getD k hd0 = l[k] := by rw [List.getD, List.getElem?_eq_getElem hl]; rfl
  rw [hg]
  exact ⟨b, off, A2, m2, c2, e, hb, hc 0 _ rfl, hc 1 _ rfl, hc 2 _ rfl, hc 3 _ rfl, hE⟩
theorem held_info : (Tryd.prog.info? 39).map (fun i => (i.zero, i.size, i.bytes)) = some (some (.agg #[.int .i64 0, .slice none 0 0, .int .i64 0, .int .i64 0]), 4, 48) := by kernel_rfl
/-- a block that holds a holding -/
def hO (h : Hd) (A : Option Addr) (m c : Nat) : Obj := .cells #[.int .i64 h.id, .slice A m c, .int .i64 h.frm, .int .i64 h.to] 39
structure BoxH (wr : World) (g : Nat) (h : Hd) (A : Option Addr) (m c : Nat) : Prop where
  lt : g < wr.heap.size
  at' : wr.heap[g]? = some (hO h A m c)
section
variable {wr w' : World} {g m c : Nat} {h : Hd} {A : Option Addr}
theorem BoxH.next (h0 : BoxH wr g h A m c) (hb : Below wr.heap.size wr w') : BoxH w' g h A m c := ⟨Nat.lt_of_lt_of_le h0.lt hb.size, (hb.block _ h0.lt).trans h0.at'⟩
theorem boxH_new (w : World) (h : Hd) (A : Option Addr) (m c : Nat) : BoxH (w.alloc (hO h A m c)) w.heap.size h A m c := ⟨by simp, heap_alloc_new w _⟩
theorem BoxH.c0 (h0 : BoxH wr g h A m c) : wr.cell? ⟨g, 0, none⟩ = some (.int .i64 h.id) := (cell_of_row wr g 0 _ _ (0, 0) h0.at').trans rfl
theorem BoxH.c1 (h0 : BoxH wr g h A m c) : wr.cell? ⟨g, 1, none⟩ = some (.slice A m c) := (cell_of_row wr g 1 _ _ (0, 0) h0.at').trans rfl
theorem BoxH.c2 (h0 : BoxH wr g h A m c) : wr.cell? ⟨g, 2, none⟩ = some (.int .i64 h.frm) := (cell_of_row wr g 2 _ _ (0, 0) h0.at').trans rfl
theorem BoxH.c3 (h0 : BoxH wr g h A m c) : wr.cell? ⟨g, 3, none⟩ = some (.int .i64 h.to) := (cell_of_row wr g 3 _ _ (0, 0) h0.at').trans rfl
theorem BoxH.frozen (h0 : BoxH wr g h A m c) (j : Nat) : wr.frozen? ⟨g, j, none⟩ = false := frozen_of_row wr g j _ _ h0.at'
end

/-- a table and an error's number -/
def TEPost (a : Tb) (er : Int) (w : World) (e : Ending) (w' : World) : Prop :=
  (∃ A1 c1, e = .returned (.tuple #[.slice A1 a.length c1, .int .i64 er]) ∧ RT w' w'.heap.size A1 a.length a ∧ (A1 = none → c1 = 0) ∧ a.length ≤ c1) ∧ Below w.heap.size w w'
theorem tepost_mk {A : Option Addr} {n c : Nat} {l : Tb} {er : Int} {w w' : World} (hr : RT w' w'.heap.size A n l) (hnil : A = none → c = 0) (hnc : n ≤ c) (hb : Below w.heap.size w w') : TEPost l er w (.returned (.tuple #[.slice A n c, .int .i64 er])) w' := by
  have := hr.len
  subst this
  exact ⟨⟨A, c, rfl, hr, hnil, hnc⟩, hb⟩
/-- a table that is asked about -/
structure TAsk (w : World) (A : Option Addr) (n c : Nat) (l : Tb) : Prop where
  reads : RT w w.heap.size A n l
  nil : A = none → c = 0
  cap : n ≤ c
  few : n ≤ maxLen
theorem TAsk.next {w w' : World} {A : Option Addr} {n c : Nat} {l : Tb} (h : TAsk w A n c l) (hb : Below w.heap.size w w') : TAsk w' A n c l := ⟨h.reads.next hb, h.nil, h.cap, h.few⟩
/-- a holding by value, as an element: what it reaches was there -/
theorem HAsk.el {w w' : World} {A : Option Addr} {m c : Nat} {h : Hd} (hh : HAsk w A m c h) (hb : Below w.heap.size w w') : EH w' (Lt w.heap.size) h [.int .i64 h.id, .slice A m c, .int .i64 h.frm, .int .i64 h.to] := by
  refine ⟨A, m, c, rfl, ⟨hh.reads.1, fun h0 => ?_⟩, hh.nil, hh.cap, hh.few, hh.int⟩
  obtain ⟨b, off, e, hlt, hc⟩ := hh.reads.2 h0
  refine ⟨b, off, e, hlt, fun j x hx => ⟨[.int .i64 x], rfl, fun i v hv => ?_, rfl⟩⟩
  have hj := (List.getElem?_eq_some_iff.1 hx).1
  have hi : i = 0 := by have := (List.getElem?_eq_some_iff.1 hv).1; simpa using this
  subst hi
  have hv' : Value.int .i64 x = v := by simpa using hv
  subst hv'
  rw [show off + (j * 1 + 0) = off + j by omega]
  have := (hb.cell (p := ⟨b, off + j, none⟩) hlt).trans (hc j (by have := hh.reads.1; omega))
  rw [this, List.getD, hx]
  rfl

end Go.Proofs.YtpoalgkgomljmaaDoor

namespace Go.Proofs.YtpoalgkgomljmaaDoor
open Go.ChangeShapes Go.WideShapes Go.ChangeAt Go.RowKit Go.Deep

set_option maxRecDepth 100000 in
theorem open_held {H : Type} {enc : TypeId × Value → H} {W : World} {cs : List Value} {x : DataW H × List MemPlace} {fuel : Nat}
    (hl : cs.length = 4) (hf : DataW.trod enc Tryd.prog W 0 (fun _ => true) true fuel 39 cs = some x) : ∃ h, EH W (Lt W.heap.size) h cs := by
  obtain ⟨ys, n', hn', hy, hlen, hyl, hfs⟩ := DataW.trod_struct Tryd.underlying39 hf
  obtain ⟨v0, v1, v2, v3, rfl⟩ : ∃ v0 v1 v2 v3, cs = [v0, v1, v2, v3] := by
    match cs, hl with
    | [a, b, c, d], _ => exact ⟨a, b, c, d, rfl⟩
  have ci : Tryd.prog.cellsOf 3 = 1 := by kernel_rfl
  have cs' : Tryd.prog.cellsOf 23 = 1 := by kernel_rfl
  have cl : Tryd.prog.cellsOf 2 = 1 := by kernel_rfl
  have h0 : DataW.trod enc Tryd.prog W 0 (fun _ => true) true n' 3 (List.take (Tryd.prog.cellsOf 3) [v0, v1, v2, v3]) = ys[0]? := hfs 0 _ rfl
  have h1 : DataW.trod enc Tryd.prog W 0 (fun _ => true) true n' 23 (List.take (Tryd.prog.cellsOf 23) [v1, v2, v3]) = ys[1]? := hfs 1 _ rfl
  have h2 : DataW.trod enc Tryd.prog W 0 (fun _ => true) true n' 2 (List.take (Tryd.prog.cellsOf 2) [v2, v3]) = ys[2]? := hfs 2 _ rfl
  have h3 : DataW.trod enc Tryd.prog W 0 (fun _ => true) true n' 2 (List.take (Tryd.prog.cellsOf 2) [v3]) = ys[3]? := hfs 3 _ rfl
  rw [ci] at h0
  rw [cs'] at h1
  rw [cl] at h2 h3
  obtain ⟨y0, y1, y2, y3, rfl⟩ : ∃ y0 y1 y2 y3, ys = [y0, y1, y2, y3] := by
    match ys, hyl with
    | [a, b, c, d], _ => exact ⟨a, b, c, d, rfl⟩
  obtain ⟨z0, e0, _, w0⟩ := DataW.trod_int Tryd.underlying3 h0
  obtain ⟨A, m, c, xs, e1, hr, a1, a2, a3, a4⟩ := open_things h1
  obtain ⟨z2, e2, _, w2⟩ := DataW.trod_int Tryd.underlying2 h2
  obtain ⟨z3, e3, _, w3⟩ := DataW.trod_int Tryd.underlying2 h3
  simp at e0 e2 e3
  subst e0 e1 e2 e3
  exact ⟨⟨z0, xs, z2, z3⟩, A, m, c, rfl, hr, a1, a2, a3, i64_wf w0, i64_wf w2, i64_wf w3, a4⟩
set_option maxRecDepth 100000 in
theorem open_RT {H : Type} {enc : TypeId × Value → H} {W : World} {b0 : Nat} {v : Value} {d : DataW H} {ps : List MemPlace}
    (hval : Value.okWide Tryd.prog W .any b0 24 v) (h : DataW.Trod enc Tryd.prog W 0 (fun _ => true) true 24 v d ps) :
    ∃ A n c l, v = .slice A n c ∧ TAsk W A n c l := by
  obtain ⟨fuel, hf⟩ := h
  obtain ⟨a', n', c', rfl⟩ := okWide_slice Tryd.underlying24 hval
  obtain ⟨A, n, c, xs, e, hr, h1, h2, h3⟩ := open_RN (E := EH) (C := 4) Tryd.underlying24 (by kernel_rfl) (by omega) (fun n cs y hl ht => open_held hl ht) hf
  simp [Value.cells] at e
  obtain ⟨rfl, rfl, rfl⟩ := e
  exact ⟨_, _, _, xs, rfl, hr, h1, h2, h3⟩
set_option maxRecDepth 100000 in
theorem open_H {H : Type} {enc : TypeId × Value → H} {W : World} {b0 : Nat} {v : Value} {d : DataW H} {ps : List MemPlace}
    (hval : Value.okWide Tryd.prog W .any b0 39 v) (h : DataW.Trod enc Tryd.prog W 0 (fun _ => true) true 39 v d ps) :
    ∃ A m c h, v = .agg #[.int .i64 h.id, .slice A m c, .int .i64 h.frm, .int .i64 h.to] ∧ HAsk W A m c h := by
  obtain ⟨fuel, hf⟩ := h
  obtain ⟨cs, rfl, hsz⟩ := okWide_struct Tryd.underlying39 hval
  have c4 : Tryd.prog.cellsOf 39 = 4 := by kernel_rfl
  obtain ⟨h, A, m, c, hv, hr, h1, h2, h3, h4⟩ := open_held (by simpa [Value.cells] using hsz.trans c4) hf
  refine ⟨A, m, c, h, ?_, RN.ri hr, h1, h2, h3, h4⟩
  congr 1
  apply Array.ext'
  simpa [Value.cells] using hv

end Go.Proofs.YtpoalgkgomljmaaDoor
