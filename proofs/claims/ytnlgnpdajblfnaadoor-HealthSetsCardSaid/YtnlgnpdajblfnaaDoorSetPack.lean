/- What set.pack, set.packBoth, words.empty and OnesCount64 answer: four words with a bit for each number of the set, or no set. -/
import Derived.Test.YtnlgnpdajblfnaaDoorSetReads
import Derived.Test.YtnlgnpdajblfnaaDoorSetWords
import Derived.Laws.BitsAllLaws
import Derived.ChangeKeysEq
namespace Go.Proofs.YtnlgnpdajblfnaaDoor
open Go.RowKit

theorem alloc_drewN (w : World) (n : Nat) (o : Obj) : (w.drewN n).alloc o = (w.alloc o).drewN n := rfl
theorem setCell_drewN (w : World) (n : Nat) (a : Addr) (v : Value) : (w.drewN n).setCell a v = (w.setCell a v).drewN n := rfl
theorem below_drewN {B : Nat} {a w : World} (h : Below B a w) (n : Nat) : Below B a (w.drewN n) := ⟨h.os, h.tape, h.output, h.size, h.block⟩
attribute [local go_sem] alloc_drewN setCell_drewN

theorem and127 (X : Int) : (bits .and .i64 X 127).toNat ≤ 127 ∧ bits .and .i64 X 127 = ((bits .and .i64 X 127).toNat : Int) := by
  have h : bits .and .i64 X 127 = IntKind.i64.wrap ((BitVec.ofInt 64 X &&& BitVec.ofInt 64 127).toNat : Int) := rfl
  have hle : (BitVec.ofInt 64 X &&& BitVec.ofInt 64 127).toNat ≤ 127 := by
    rw [BitVec.toNat_and]
    exact Nat.le_trans Nat.and_le_right (by decide)
  rw [h, IntKind.wrap_i64]
  omega

set_option maxHeartbeats 1000000 in
theorem count_any (a : Nat) (w : World) :
    Calls Tryd.prog 37 #[.int .u64 a] w fun e w' => (∃ n : Nat, n ≤ 127 ∧ e = .returned (.int .i64 n)) ∧ w = w' := by
  go_enter Tryd.func37, Tryd.ntmps37
  go_wp2
  go_ret
  exact ⟨⟨_, (and127 _).1, ret_int (and127 _).2⟩, rfl⟩

theorem run_words_eq (a0 a1 a2 a3 : Nat) (W : World) :
    (Op.equalIn 10000 43 (.agg #[.int .u64 a0, .int .u64 a1, .int .u64 a2, .int .u64 a3]) (.agg #[.int .u64 0, .int .u64 0, .int .u64 0, .int .u64 0])).run Tryd.prog W = .ok (decide (a0 = 0 ∧ a1 = 0 ∧ a2 = 0 ∧ a3 = 0)) W := by
  obtain ⟨i, hi⟩ : ∃ i, Tryd.prog.info? 41 = some i := by
    cases h : Tryd.prog.info? 41 with
    | none => exact absurd (show (Tryd.prog.info? 41).isSome = true by kernel_rfl) (by rw [h]; simp)
    | some i => exact ⟨i, rfl⟩
  have hc : Tryd.prog.cellsOf 41 = 1 := by kernel_rfl
  rw [show (10000 : Nat) = 9999 + 1 from rfl, run_equalIn_array W 9999 _ _ Tryd.underlying43 hi, hc]
  have hu := Tryd.underlying41
  have hs := fun a => run_equalIn_int (P := Tryd.prog) W 9998 41 .u64 .u64 a 0 hu
  rw [show List.range 4 = [0, 1, 2, 3] from rfl]
  by_cases h0 : a0 = 0 <;> by_cases h1 : a1 = 0 <;> by_cases h2 : a2 = 0 <;> by_cases h3 : a3 = 0 <;>
    simp [Op.eqItems, part, isAgg, run_underlying hu, hs, h0, h1, h2, h3]

set_option maxHeartbeats 1000000 in
theorem empty_any (a0 a1 a2 a3 : Nat) (w : World) :
    Calls Tryd.prog 24 #[.agg #[.int .u64 a0, .int .u64 a1, .int .u64 a2, .int .u64 a3]] w fun e w' =>
      e = .returned (.bool (decide (a0 = 0 ∧ a1 = 0 ∧ a2 = 0 ∧ a3 = 0))) ∧ Below w.heap.size w w' := by
  have H := run_words_eq a0 a1 a2 a3
  generalize decide (a0 = 0 ∧ a1 = 0 ∧ a2 = 0 ∧ a3 = 0) = z at *
  go_enter Tryd.func24, Tryd.ntmps24
  go_wp2
  go_ret
  exact ⟨rfl, by go_grown⟩

theorem put64 {a r : Nat} (ha : U64 a) (hr : r < 64) : bits .or .u64 (a : Int) (IntKind.u64.wrap (2 ^ r)) = ((a ||| 2 ^ r : Nat) : Int) := by
  have h2 := two_pow_small r hr
  have e : IntKind.u64.wrap (2 ^ r) = ((2 ^ r : Nat) : Int) := by
    rw [IntKind.wrap_u64]
    have : ((2 : Int) ^ r) = ((2 ^ r : Nat) : Int) := by simp
    rw [this]
    generalize (2 ^ r : Nat) = y at *
    omega
  rw [e]
  exact u64_or_nat a (2 ^ r) ha h2

theorem four_lt {p : Int → Bool} {a0 a1 a2 a3 : Nat} (h : Four p a0 a1 a2 a3) : U64 a0 ∧ U64 a1 ∧ U64 a2 ∧ U64 a3 := by
  obtain ⟨rfl, rfl, rfl, rfl⟩ := h
  exact ⟨wordOf_lt _ _, wordOf_lt _ _, wordOf_lt _ _, wordOf_lt _ _⟩
theorem inB_take (xs : List Int) (k : Nat) (hk : k < xs.length) (x : Nat) (hx : xs.getD k 0 = x) : inB (xs.take (k + 1)) = fun n => inB (xs.take k) n || n == (x : Int) := by
  funext n
  unfold inB
  have e : xs.take (k + 1) = xs.take k ++ [(x : Int)] := by
    rw [List.take_succ_eq_append_getElem hk, ← hx]; simp [List.getD, hk]
  rw [e, Bool.eq_iff_iff]
  simp
theorem inB_take_zero (xs : List Int) : Four (inB (xs.take 0)) 0 0 0 0 := by
  have h : ∀ i, wordOf (inB (xs.take 0)) i = 0 := fun i => bitsTo_zero.2 fun j _ => by simp [inB]
  exact ⟨(h 0).symm, (h 1).symm, (h 2).symm, (h 3).symm⟩
theorem four_put0 {xs : List Int} {k x r a0 a1 a2 a3 : Nat} (hk : k < xs.length) (hx : xs.getD k 0 = x) (h : Four (inB (xs.take k)) a0 a1 a2 a3) (hr : r < 64) (hm : x = 64 * 0 + r) : Four (inB (xs.take (k + 1))) (a0 ||| 2 ^ r) a1 a2 a3 := by
  rw [inB_take xs k hk x hx]
  obtain ⟨rfl, rfl, rfl, rfl⟩ := h
  exact ⟨by rw [wordOf_put _ x 0 r hr (by omega)], (wordOf_put_other _ x 1 (by omega)).symm, (wordOf_put_other _ x 2 (by omega)).symm, (wordOf_put_other _ x 3 (by omega)).symm⟩
theorem four_put1 {xs : List Int} {k x r a0 a1 a2 a3 : Nat} (hk : k < xs.length) (hx : xs.getD k 0 = x) (h : Four (inB (xs.take k)) a0 a1 a2 a3) (hr : r < 64) (hm : x = 64 * 1 + r) : Four (inB (xs.take (k + 1))) a0 (a1 ||| 2 ^ r) a2 a3 := by
  rw [inB_take xs k hk x hx]
  obtain ⟨rfl, rfl, rfl, rfl⟩ := h
  exact ⟨(wordOf_put_other _ x 0 (by omega)).symm, by rw [wordOf_put _ x 1 r hr (by omega)], (wordOf_put_other _ x 2 (by omega)).symm, (wordOf_put_other _ x 3 (by omega)).symm⟩
theorem four_put2 {xs : List Int} {k x r a0 a1 a2 a3 : Nat} (hk : k < xs.length) (hx : xs.getD k 0 = x) (h : Four (inB (xs.take k)) a0 a1 a2 a3) (hr : r < 64) (hm : x = 64 * 2 + r) : Four (inB (xs.take (k + 1))) a0 a1 (a2 ||| 2 ^ r) a3 := by
  rw [inB_take xs k hk x hx]
  obtain ⟨rfl, rfl, rfl, rfl⟩ := h
  exact ⟨(wordOf_put_other _ x 0 (by omega)).symm, (wordOf_put_other _ x 1 (by omega)).symm, by rw [wordOf_put _ x 2 r hr (by omega)], (wordOf_put_other _ x 3 (by omega)).symm⟩
theorem four_put3 {xs : List Int} {k x r a0 a1 a2 a3 : Nat} (hk : k < xs.length) (hx : xs.getD k 0 = x) (h : Four (inB (xs.take k)) a0 a1 a2 a3) (hr : r < 64) (hm : x = 64 * 3 + r) : Four (inB (xs.take (k + 1))) a0 a1 a2 (a3 ||| 2 ^ r) := by
  rw [inB_take xs k hk x hx]
  obtain ⟨rfl, rfl, rfl, rfl⟩ := h
  exact ⟨(wordOf_put_other _ x 0 (by omega)).symm, (wordOf_put_other _ x 1 (by omega)).symm, (wordOf_put_other _ x 2 (by omega)).symm, by rw [wordOf_put _ x 3 r hr (by omega)]⟩

set_option maxHeartbeats 2000000 in
theorem pack_yes (A : Option Addr) (n c : Nat) (xs : List Int) (w : World) (hr : RI w w.heap.size A n xs) (hn : n ≤ maxLen) (hset : rightB xs = true) :
    Calls Tryd.prog 36 #[.slice A n c] w fun e w' => (∃ a0 a1 a2 a3 : Nat, Four (inB xs) a0 a1 a2 a3 ∧ e = .returned (.tuple #[.agg #[.int .u64 a0, .int .u64 a1, .int .u64 a2, .int .u64 a3], .bool true])) ∧ Below w.heap.size w w' := by
  have HS := Lib.hid hset
  clear hset
  have HLEN := Lib.hid hr.1
  go_enter Tryd.func36, Tryd.ntmps36
  go_wp2_with (go_at_call 25; refine (right_any _ _ _ xs _ w.heap.size (hr.below (by go_grown)) hn).mono ?_; rintro e w' ⟨rfl, rfl⟩; rw [HS.out])
  unfold maxLen at hn
  go_loopw [13] (fun i wr => ∃ k : Nat, k ≤ n ∧ i = .int .i64 k ∧ ∃ a0 a1 a2 a3 : Nat, Four (inB (xs.take k)) a0 a1 a2 a3 ∧ ∃ q, wr = ((w.alloc (.cells #[.int .u64 0, .int .u64 0, .int .u64 0, .int .u64 0] 43)).alloc (.cells #[.int .u64 a0, .int .u64 a1, .int .u64 a2, .int .u64 a3] 43)).drewN q)
    (fun i _ => n - (intOf i).toNat)
  case atStart => exact ⟨0, Nat.zero_le _, rfl, 0, 0, 0, 0, inB_take_zero xs, 0, rfl⟩
  case round =>
    obtain ⟨k, hk, rfl, a0, a1, a2, a3, h4, q, rfl⟩ := hrel
    have H4 := Lib.hid h4
    clear h4
    by_cases hlt : k < n
    · obtain ⟨b, off, rfl, hb, hc⟩ := hr.2 (by omega)
      have hck := hc k hlt
      clear hc hr
      have HKL : Hid (k < xs.length) := Lib.hid (by have := HLEN.out; omega)
      have hb0 := right_mem HS.out (xs.getD k 0) (by have := HKL.out; simp [List.getD, this])
      obtain ⟨x, hx⟩ : ∃ x : Nat, xs.getD k 0 = x := ⟨(xs.getD k 0).toNat, by omega⟩
      have HX := Lib.hid hx
      rw [hx] at hck hb0
      clear hx
      have hx255 : x ≤ 255 := by omega
      clear hb0
      obtain ⟨r, hr⟩ : ∃ r, r = x % 64 := ⟨_, rfl⟩
      have hr64 : r < 64 := by omega
      have hm : (x : Int) % 64 = (r : Int) := by omega
      have Hr := Lib.hid hr
      clear hr
      have hi : x / 64 = 0 ∨ x / 64 = 1 ∨ x / 64 = 2 ∨ x / 64 = 3 := by omega
      obtain ⟨l0, l1, l2, l3⟩ := four_lt H4.out
      rcases hi with hi | hi | hi | hi
      · have hd : (x : Int) / 64 = 0 := by omega
        have HF := Lib.hid (four_put0 HKL.out HX.out H4.out hr64 (by have := Hr.out; omega))
        have hput := put64 l0 hr64
        clear hi l0 l1 l2 l3
        go_wp2
        go_region
        go_wp2
        go_roundw
        case rel => exact ⟨k + 1, by omega, by go_num, _, _, _, _, HF.out, q + 1, rfl⟩
        case measure => simp [intOf]; omega
      · have hd : (x : Int) / 64 = 1 := by omega
        have HF := Lib.hid (four_put1 HKL.out HX.out H4.out hr64 (by have := Hr.out; omega))
        have hput := put64 l1 hr64
        clear hi l0 l1 l2 l3
        go_wp2
        go_region
        go_wp2
        go_roundw
        case rel => exact ⟨k + 1, by omega, by go_num, _, _, _, _, HF.out, q + 1, rfl⟩
        case measure => simp [intOf]; omega
      · have hd : (x : Int) / 64 = 2 := by omega
        have HF := Lib.hid (four_put2 HKL.out HX.out H4.out hr64 (by have := Hr.out; omega))
        have hput := put64 l2 hr64
        clear hi l0 l1 l2 l3
        go_wp2
        go_region
        go_wp2
        go_roundw
        case rel => exact ⟨k + 1, by omega, by go_num, _, _, _, _, HF.out, q + 1, rfl⟩
        case measure => simp [intOf]; omega
      · have hd : (x : Int) / 64 = 3 := by omega
        have HF := Lib.hid (four_put3 HKL.out HX.out H4.out hr64 (by have := Hr.out; omega))
        have hput := put64 l3 hr64
        clear hi l0 l1 l2 l3
        go_wp2
        go_region
        go_wp2
        go_roundw
        case rel => exact ⟨k + 1, by omega, by go_num, _, _, _, _, HF.out, q + 1, rfl⟩
        case measure => simp [intOf]; omega
    · have hkn : k = n := by omega
      subst hkn
      go_wp2
      refine bodyPost_ret (v := .tuple #[.agg #[.int .u64 a0, .int .u64 a1, .int .u64 a2, .int .u64 a3], .bool true]) (by simp [results, Tryd.results36, go_sem]) rfl ⟨⟨a0, a1, a2, a3, ?_, rfl⟩, ?_⟩
      · have h := H4.out
        rwa [List.take_of_length_le (by have := HLEN.out; omega)] at h
      · exact below_drewN (by go_grown) _

set_option maxHeartbeats 1000000 in
theorem pack_no (A : Option Addr) (n c : Nat) (xs : List Int) (w : World) (hr : RI w w.heap.size A n xs) (hn : n ≤ maxLen) (hset : rightB xs = false) :
    Calls Tryd.prog 36 #[.slice A n c] w fun e w' => e = .returned (.tuple #[.agg #[.int .u64 0, .int .u64 0, .int .u64 0, .int .u64 0], .bool false]) ∧ Below w.heap.size w w' := by
  have HS := Lib.hid hset
  clear hset
  go_enter Tryd.func36, Tryd.ntmps36
  go_wp2_with (go_at_call 25; refine (right_any _ _ _ xs _ w.heap.size (hr.below (by go_grown)) hn).mono ?_; rintro e w' ⟨rfl, rfl⟩; rw [HS.out])
  refine bodyPost_ret (v := .tuple #[.agg #[.int .u64 0, .int .u64 0, .int .u64 0, .int .u64 0], .bool false]) (by simp [results, Tryd.results36, go_sem]) rfl ⟨rfl, by go_grown⟩

/-- 'some words, which are the set's if it is one', kept from the walk -/
def IsPack (xs : List Int) (a0 a1 a2 a3 : Nat) : Prop := rightB xs = true → Four (inB xs) a0 a1 a2 a3
def PackPost (xs : List Int) (B : Nat) (w : World) (e : Ending) (w' : World) : Prop :=
  (∃ a0 a1 a2 a3 : Nat, IsPack xs a0 a1 a2 a3 ∧ e = .returned (.tuple #[.agg #[.int .u64 a0, .int .u64 a1, .int .u64 a2, .int .u64 a3], .bool (rightB xs)])) ∧ Below B w w'
theorem pack_any (A : Option Addr) (n c : Nat) (xs : List Int) (w : World) (hr : RI w w.heap.size A n xs) (hn : n ≤ maxLen) :
    Calls Tryd.prog 36 #[.slice A n c] w (PackPost xs w.heap.size w) := by
  cases h : rightB xs with
  | false => exact (pack_no A n c xs w hr hn h).mono fun e w' ⟨he, hb⟩ => ⟨⟨0, 0, 0, 0, fun hh => (by rw [h] at hh; cases hh), by rw [he, h]; rfl⟩, hb⟩
  | true => exact (pack_yes A n c xs w hr hn h).mono fun e w' ⟨⟨a0, a1, a2, a3, h4, he⟩, hb⟩ => ⟨⟨a0, a1, a2, a3, fun _ => h4, by rw [he, h]⟩, hb⟩

end Go.Proofs.YtnlgnpdajblfnaaDoor
