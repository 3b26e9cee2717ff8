/- What set.pack, set.packBoth, words.empty and OnesCount64 answer: four words with a bit for each number of the set, or no set. bits.TrailingZeros64 of Go's library at this dump, by the library's contract: its table is taken as Go's text lays it. What the words of a set list: the numbers of the set, rising, in new memory; the table of trailing zeros as Go's text lays it. What is taken of the library's tables, where a seat's code reaches them: nothing, or that they lie as Go's text lays them. Words for memory: a slice of holdings that reads as a table; a holding by value. How layer 10's arguments are opened: a table of holdings, a holding by value. What the frames of statements that list the library's tables share: the tables out of the row's list; the wrap that hands on both the list and the world's shape. No condition of its own. What the calls of layer 10 answer, in words for memory; tables that can be looked at whole. -/
import Derived.Laws.BitsAllLaws
import Derived.ChangeKeysEq
import Derived.Test.YtbiofikijehlcaaDoorMg02
import Derived.Shelf.Spec.TrailingZeros
import Derived.Shelf.Lays7
import Derived.Test.YtbiofikijehlcaaDoorProg
import Derived.Test.YtbiofikijehlcaaDoorMg01
import Derived.Test.YtbiofikijehlcaaDoorTie
import Derived.Lib.LaidTab
import Derived.LaidMore
import Derived.Lay
import Derived.SevenTiedAt
import Derived.Stop.Joined
namespace Go.Proofs.YtbiofikijehlcaaDoor
open Go.RowKit

theorem alloc_drewN (w : World) (n : Nat) (o : Obj) : (w.drewN n).alloc o = (w.alloc o).drewN n := rfl
theorem setCell_drewN (w : World) (n : Nat) (a : Addr) (v : Value) : (w.drewN n).setCell a v = (w.setCell a v).drewN n := rfl
theorem below_drewN {B : Nat} {a w : World} (h : Below B a w) (n : Nat) : Below B a (w.drewN n) := ⟨h.os, h.tape, h.output, h.size, h.block⟩
attribute [local go_sem] alloc_drewN setCell_drewN

theorem and127 (X : Int) : (bits .and .i64 X 127).toNat ≤ 127 ∧ bits .and .i64 X 127 = ((bits .and .i64 X 127).toNat : Int) := by
  have h : bits .and .i64 X 127 = IntKind.i64.wrap ((BitVec.ofInt 64 X &&& BitVec.ofInt 64 127).toNat : Int) := rfl
  have hle : (BitVec.ofInt 64 X &&& BitVec.ofInt 64 127).toNat ≤ 127 := by
    rw [BitVec.toNat_and]
    exact Nat.le_trans Nat.and_le_right (by decide)
  rw [h, IntKind.wrap_i64]
  omega

set_option maxHeartbeats 1000000 in
theorem count_any (a : Nat) (w : World) :
    Calls Tryd.prog 34 #[.int .u64 a] w fun e w' => (∃ n : Nat, n ≤ 127 ∧ e = .returned (.int .i64 n)) ∧ w = w' := by
  go_enter Tryd.func34, Tryd.ntmps34
  go_wp2
  go_ret
  exact ⟨⟨_, (and127 _).1, ret_int (and127 _).2⟩, rfl⟩

theorem run_words_eq (a0 a1 a2 a3 : Nat) (W : World) :
    (Op.equalIn 10000 44 (.agg #[.int .u64 a0, .int .u64 a1, .int .u64 a2, .int .u64 a3]) (.agg #[.int .u64 0, .int .u64 0, .int .u64 0, .int .u64 0])).run Tryd.prog W = .ok (decide (a0 = 0 ∧ a1 = 0 ∧ a2 = 0 ∧ a3 = 0)) W := by
  obtain ⟨i, hi⟩ : ∃ i, Tryd.prog.info? 42 = some i := by
    cases h : Tryd.prog.info? 42 with
    | none => exact absurd (show (Tryd.prog.info? 42).isSome = true by kernel_rfl) (by rw [h]; simp)
    | some i => exact ⟨i, rfl⟩
  have hc : Tryd.prog.cellsOf 42 = 1 := by kernel_rfl
  rw [show (10000 : Nat) = 9999 + 1 from rfl, run_equalIn_array W 9999 _ _ Tryd.underlying44 hi, hc]
  have hu := Tryd.underlying42
  have hs := fun a => run_equalIn_int (P := Tryd.prog) W 9998 42 .u64 .u64 a 0 hu
  rw [show List.range 4 = [0, 1, 2, 3] from rfl]
  by_cases h0 : a0 = 0 <;> by_cases h1 : a1 = 0 <;> by_cases h2 : a2 = 0 <;> by_cases h3 : a3 = 0 <;>
    simp [Op.eqItems, part, isAgg, run_underlying hu, hs, h0, h1, h2, h3]

set_option maxHeartbeats 1000000 in
theorem empty_any (a0 a1 a2 a3 : Nat) (w : World) :
    Calls Tryd.prog 19 #[.agg #[.int .u64 a0, .int .u64 a1, .int .u64 a2, .int .u64 a3]] w fun e w' =>
      e = .returned (.bool (decide (a0 = 0 ∧ a1 = 0 ∧ a2 = 0 ∧ a3 = 0))) ∧ Below w.heap.size w w' := by
  have H := run_words_eq a0 a1 a2 a3
  generalize decide (a0 = 0 ∧ a1 = 0 ∧ a2 = 0 ∧ a3 = 0) = z at *
  go_enter Tryd.func19, Tryd.ntmps19
  go_wp2
  go_ret
  exact ⟨rfl, by go_grown⟩

theorem put64 {a r : Nat} (ha : U64 a) (hr : r < 64) : bits .or .u64 (a : Int) (IntKind.u64.wrap (2 ^ r)) = ((a ||| 2 ^ r : Nat) : Int) := by
  have h2 := two_pow_small r hr
  have e : IntKind.u64.wrap (2 ^ r) = ((2 ^ r : Nat) : Int) := by
    rw [IntKind.wrap_u64]
    have : ((2 : Int) ^ r) = ((2 ^ r : Nat) : Int) := by simp
    rw [this]
    generalize (2 ^ r : Nat) = y at *
    omega
  rw [e]
  exact u64_or_nat a (2 ^ r) ha h2

theorem four_lt {p : Int → Bool} {a0 a1 a2 a3 : Nat} (h : Four p a0 a1 a2 a3) : U64 a0 ∧ U64 a1 ∧ U64 a2 ∧ U64 a3 := by
  obtain ⟨rfl, rfl, rfl, rfl⟩ := h
  exact ⟨wordOf_lt _ _, wordOf_lt _ _, wordOf_lt _ _, wordOf_lt _ _⟩
theorem inB_take (xs : List Int) (k : Nat) (hk : k < xs.length) (x : Nat) (hx : xs.getD k 0 = x) : inB (xs.take (k + 1)) = fun n => inB (xs.take k) n || n == (x : Int) := by
  funext n
  unfold inB
  have e : xs.take (k + 1) = xs.take k ++ [(x : Int)] := by
    rw [List.take_succ_eq_append_getElem hk, ← hx]; simp [List.getD, hk]
  rw [e, Bool.eq_iff_iff]
  simp
theorem inB_take_zero (xs : List Int) : Four (inB (xs.take 0)) 0 0 0 0 := by
  have h : ∀ i, wordOf (inB (xs.take 0)) i = 0 := fun i => bitsTo_zero.2 fun j _ => by simp [inB]
  exact ⟨(h 0).symm, (h 1).symm, (h 2).symm, (h 3).symm⟩
theorem four_put0 {xs : List Int} {k x r a0 a1 a2 a3 : Nat} (hk : k < xs.length) (hx : xs.getD k 0 = x) (h : Four (inB (xs.take k)) a0 a1 a2 a3) (hr : r < 64) (hm : x = 64 * 0 + r) : Four (inB (xs.take (k + 1))) (a0 ||| 2 ^ r) a1 a2 a3 := by
  rw [inB_take xs k hk x hx]
  obtain ⟨rfl, rfl, rfl, rfl⟩ := h
  exact ⟨by rw [wordOf_put _ x 0 r hr (by omega)], (wordOf_put_other _ x 1 (by omega)).symm, (wordOf_put_other _ x 2 (by omega)).symm, (wordOf_put_other _ x 3 (by omega)).symm⟩
theorem four_put1 {xs : List Int} {k x r a0 a1 a2 a3 : Nat} (hk : k < xs.length) (hx : xs.getD k 0 = x) (h : Four (inB (xs.take k)) a0 a1 a2 a3) (hr : r < 64) (hm : x = 64 * 1 + r) : Four (inB (xs.take (k + 1))) a0 (a1 ||| 2 ^ r) a2 a3 := by
  rw [inB_take xs k hk x hx]
  obtain ⟨rfl, rfl, rfl, rfl⟩ := h
  exact ⟨(wordOf_put_other _ x 0 (by omega)).symm, by rw [wordOf_put _ x 1 r hr (by omega)], (wordOf_put_other _ x 2 (by omega)).symm, (wordOf_put_other _ x 3 (by omega)).symm⟩
theorem four_put2 {xs : List Int} {k x r a0 a1 a2 a3 : Nat} (hk : k < xs.length) (hx : xs.getD k 0 = x) (h : Four (inB (xs.take k)) a0 a1 a2 a3) (hr : r < 64) (hm : x = 64 * 2 + r) : Four (inB (xs.take (k + 1))) a0 a1 (a2 ||| 2 ^ r) a3 := by
  rw [inB_take xs k hk x hx]
  obtain ⟨rfl, rfl, rfl, rfl⟩ := h
  exact ⟨(wordOf_put_other _ x 0 (by omega)).symm, (wordOf_put_other _ x 1 (by omega)).symm, by rw [wordOf_put _ x 2 r hr (by omega)], (wordOf_put_other _ x 3 (by omega)).symm⟩
theorem four_put3 {xs : List Int} {k x r a0 a1 a2 a3 : Nat} (hk : k < xs.length) (hx : xs.getD k 0 = x) (h : Four (inB (xs.take k)) a0 a1 a2 a3) (hr : r < 64) (hm : x = 64 * 3 + r) : Four (inB (xs.take (k + 1))) a0 a1 a2 (a3 ||| 2 ^ r) := by
  rw [inB_take xs k hk x hx]
  obtain ⟨rfl, rfl, rfl, rfl⟩ := h
  exact ⟨(wordOf_put_other _ x 0 (by omega)).symm, (wordOf_put_other _ x 1 (by omega)).symm, (wordOf_put_other _ x 2 (by omega)).symm, by rw [wordOf_put _ x 3 r hr (by omega)]⟩

set_option maxHeartbeats 2000000 in
theorem pack_yes (A : Option Addr) (n c : Nat) (xs : List Int) (w : World) (hr : RI w w.heap.size A n xs) (hn : n ≤ maxLen) (hset : rightB xs = true) :
    Calls Tryd.prog 32 #[.slice A n c] w fun e w' => (∃ a0 a1 a2 a3 : Nat, Four (inB xs) a0 a1 a2 a3 ∧ e = .returned (.tuple #[.agg #[.int .u64 a0, .int .u64 a1, .int .u64 a2, .int .u64 a3], .bool true])) ∧ Below w.heap.size w w' := by
  have HS := Lib.hid hset
  clear hset
  have HLEN := Lib.hid hr.1
  go_enter Tryd.func32, Tryd.ntmps32
  go_wp2_with (go_at_call 36; refine (right_any _ _ _ xs _ w.heap.size (hr.below (by go_grown)) hn).mono ?_; rintro e w' ⟨rfl, rfl⟩; rw [HS.out])
  unfold maxLen at hn
  go_loopw [13] (fun i wr => ∃ k : Nat, k ≤ n ∧ i = .int .i64 k ∧ ∃ a0 a1 a2 a3 : Nat, Four (inB (xs.take k)) a0 a1 a2 a3 ∧ ∃ q, wr = ((w.alloc (.cells #[.int .u64 0, .int .u64 0, .int .u64 0, .int .u64 0] 44)).alloc (.cells #[.int .u64 a0, .int .u64 a1, .int .u64 a2, .int .u64 a3] 44)).drewN q)
    (fun i _ => n - (intOf i).toNat)
  case atStart => exact ⟨0, Nat.zero_le _, rfl, 0, 0, 0, 0, inB_take_zero xs, 0, rfl⟩
  case round =>
    obtain ⟨k, hk, rfl, a0, a1, a2, a3, h4, q, rfl⟩ := hrel
    have H4 := Lib.hid h4
    clear h4
    by_cases hlt : k < n
    · obtain ⟨b, off, rfl, hb, hc⟩ := hr.2 (by omega)
      have hck := hc k hlt
      clear hc hr
      have HKL : Hid (k < xs.length) := Lib.hid (by have := HLEN.out; omega)
      have hb0 := right_mem HS.out (xs.getD k 0) (by have := HKL.out; simp [List.getD, this])
      obtain ⟨x, hx⟩ : ∃ x : Nat, xs.getD k 0 = x := ⟨(xs.getD k 0).toNat, by omega⟩
      have HX := Lib.hid hx
      rw [hx] at hck hb0
      clear hx
      have hx255 : x ≤ 255 := by omega
      clear hb0
      obtain ⟨r, hr⟩ : ∃ r, r = x % 64 := ⟨_, rfl⟩
      have hr64 : r < 64 := by omega
      have hm : (x : Int) % 64 = (r : Int) := by omega
      have Hr := Lib.hid hr
      clear hr
      have hi : x / 64 = 0 ∨ x / 64 = 1 ∨ x / 64 = 2 ∨ x / 64 = 3 := by omega
      obtain ⟨l0, l1, l2, l3⟩ := four_lt H4.out
      rcases hi with hi | hi | hi | hi
      · have hd : (x : Int) / 64 = 0 := by omega
        have HF := Lib.hid (four_put0 HKL.out HX.out H4.out hr64 (by have := Hr.out; omega))
        have hput := put64 l0 hr64
        clear hi l0 l1 l2 l3
        go_wp2
        go_region
        go_wp2
        go_roundw
        case rel => exact ⟨k + 1, by omega, by go_num, _, _, _, _, HF.out, q + 1, rfl⟩
        case measure => simp [intOf]; omega
      · have hd : (x : Int) / 64 = 1 := by omega
        have HF := Lib.hid (four_put1 HKL.out HX.out H4.out hr64 (by have := Hr.out; omega))
        have hput := put64 l1 hr64
        clear hi l0 l1 l2 l3
        go_wp2
        go_region
        go_wp2
        go_roundw
        case rel => exact ⟨k + 1, by omega, by go_num, _, _, _, _, HF.out, q + 1, rfl⟩
        case measure => simp [intOf]; omega
      · have hd : (x : Int) / 64 = 2 := by omega
        have HF := Lib.hid (four_put2 HKL.out HX.out H4.out hr64 (by have := Hr.out; omega))
        have hput := put64 l2 hr64
        clear hi l0 l1 l2 l3
        go_wp2
        go_region
        go_wp2
        go_roundw
        case rel => exact ⟨k + 1, by omega, by go_num, _, _, _, _, HF.out, q + 1, rfl⟩
        case measure => simp [intOf]; omega
      · have hd : (x : Int) / 64 = 3 := by omega
        have HF := Lib.hid (four_put3 HKL.out HX.out H4.out hr64 (by have := Hr.out; omega))
        have hput := put64 l3 hr64
        clear hi l0 l1 l2 l3
        go_wp2
        go_region
        go_wp2
        go_roundw
        case rel => exact ⟨k + 1, by omega, by go_num, _, _, _, _, HF.out, q + 1, rfl⟩
        case measure => simp [intOf]; omega
    · have hkn : k = n := by omega
      subst hkn
      go_wp2
      refine bodyPost_ret (v := .tuple #[.agg #[.int .u64 a0, .int .u64 a1, .int .u64 a2, .int .u64 a3], .bool true]) (by simp [results, Tryd.results32, go_sem]) rfl ⟨⟨a0, a1, a2, a3, ?_, rfl⟩, ?_⟩
      · have h := H4.out
        rwa [List.take_of_length_le (by have := HLEN.out; omega)] at h
      · exact below_drewN (by go_grown) _

set_option maxHeartbeats 1000000 in
theorem pack_no (A : Option Addr) (n c : Nat) (xs : List Int) (w : World) (hr : RI w w.heap.size A n xs) (hn : n ≤ maxLen) (hset : rightB xs = false) :
    Calls Tryd.prog 32 #[.slice A n c] w fun e w' => e = .returned (.tuple #[.agg #[.int .u64 0, .int .u64 0, .int .u64 0, .int .u64 0], .bool false]) ∧ Below w.heap.size w w' := by
  have HS := Lib.hid hset
  clear hset
  go_enter Tryd.func32, Tryd.ntmps32
  go_wp2_with (go_at_call 36; refine (right_any _ _ _ xs _ w.heap.size (hr.below (by go_grown)) hn).mono ?_; rintro e w' ⟨rfl, rfl⟩; rw [HS.out])
  refine bodyPost_ret (v := .tuple #[.agg #[.int .u64 0, .int .u64 0, .int .u64 0, .int .u64 0], .bool false]) (by simp [results, Tryd.results32, go_sem]) rfl ⟨rfl, by go_grown⟩

/-- 'some words, which are the set's if it is one', kept from the walk -/
def IsPack (xs : List Int) (a0 a1 a2 a3 : Nat) : Prop := rightB xs = true → Four (inB xs) a0 a1 a2 a3
def PackPost (xs : List Int) (B : Nat) (w : World) (e : Ending) (w' : World) : Prop :=
  (∃ a0 a1 a2 a3 : Nat, IsPack xs a0 a1 a2 a3 ∧ e = .returned (.tuple #[.agg #[.int .u64 a0, .int .u64 a1, .int .u64 a2, .int .u64 a3], .bool (rightB xs)])) ∧ Below B w w'
theorem pack_any (A : Option Addr) (n c : Nat) (xs : List Int) (w : World) (hr : RI w w.heap.size A n xs) (hn : n ≤ maxLen) :
    Calls Tryd.prog 32 #[.slice A n c] w (PackPost xs w.heap.size w) := by
  cases h : rightB xs with
  | false => exact (pack_no A n c xs w hr hn h).mono fun e w' ⟨he, hb⟩ => ⟨⟨0, 0, 0, 0, fun hh => (by rw [h] at hh; cases hh), by rw [he, h]; rfl⟩, hb⟩
  | true => exact (pack_yes A n c xs w hr hn h).mono fun e w' ⟨⟨a0, a1, a2, a3, h4, he⟩, hb⟩ => ⟨⟨a0, a1, a2, a3, fun _ => h4, by rw [he, h]⟩, hb⟩

end Go.Proofs.YtbiofikijehlcaaDoor

namespace Go.Proofs
open Go.Shelf
open Go.RowKit
def Tryd.tzRen : Go.Shelf.Ren := ⟨fun | 29 => 35 | n => n, fun | 22 => 42 | 3 => 3 | 4 => 4 | 25 => 70 | 54 => 72 | 0 => 0 | 5 => 5 | n => n, fun | 1 => 0 | n => n⟩
theorem Tryd.tzLays : Go.Proofs.Lays7.n29 Tryd.prog Tryd.tzRen := {
  mixed := by kernel_rfl
  f29 := Tryd.func35.trans (congrArg some (by kernel_rfl))
  t0 := Tryd.underlying0
  a0 := Tryd.isAgg0
  z0 := Tryd.sizeOf0
  v0 := Tryd.zeroValue0
  i0 := by kernel_rfl
  t3 := Tryd.underlying3
  a3 := Tryd.isAgg3
  z3 := Tryd.sizeOf3
  v3 := Tryd.zeroValue3
  i3 := by kernel_rfl
  t4 := Tryd.underlying4
  a4 := Tryd.isAgg4
  z4 := Tryd.sizeOf4
  v4 := Tryd.zeroValue4
  i4 := by kernel_rfl
  t5 := Tryd.underlying5
  a5 := Tryd.isAgg5
  z5 := Tryd.sizeOf5
  v5 := Tryd.zeroValue5
  i5 := by kernel_rfl
  t22 := Tryd.underlying42
  a22 := Tryd.isAgg42
  z22 := Tryd.sizeOf42
  v22 := Tryd.zeroValue42
  i22 := by kernel_rfl
  t25 := Tryd.underlying70
  a25 := Tryd.isAgg70
  z25 := Tryd.sizeOf70
  v25 := Tryd.zeroValue70
  i25 := by kernel_rfl
  t54 := Tryd.underlying72
  a54 := Tryd.isAgg72
  z54 := Tryd.sizeOf72
  g1 := by kernel_rfl }
theorem Tryd.tz64 (x : Nat) (hx : x < 18446744073709551616) (w : World) (hT : x ≠ 0 → TabAt 0 Lib.deBruijn64tab w) :
    Calls Tryd.prog 35 #[.int .u64 x] w fun e w' => e = .returned (.int .i64 (Lib.ctz 64 x)) ∧ w' = w := Any7.bits_TrailingZeros64 Tryd.tzLays x hx w hT
end Go.Proofs

namespace Go.Proofs.YtbiofikijehlcaaDoor
open Go.RowKit
open Go.Shelf

theorem tz_any (x : Nat) (hx : U64 x) (w : World) (hT : TabAt 0 Lib.deBruijn64tab w) :
    Calls Tryd.prog 35 #[.int .u64 x] w fun e w' => e = .returned (.int .i64 (Lib.ctz 64 x)) ∧ w = w' :=
  (Tryd.tz64 x hx w (fun _ => hT)).mono fun _ _ ⟨h1, h2⟩ => ⟨h1, h2.symm⟩
theorem tab_below {B : Nat} {w w' : World} (h : TabAt 0 Lib.deBruijn64tab w) (hb : Below B w w') (hB : 0 < B) : TabAt 0 Lib.deBruijn64tab w' := fun j hj =>
  (hb.cell (p := ⟨0, j, none⟩) hB).trans (h j hj)
theorem tab_alloc {w : World} (h : TabAt 0 Lib.deBruijn64tab w) (hB : 0 < w.heap.size) (o : Obj) : TabAt 0 Lib.deBruijn64tab (w.alloc o) :=
  tab_below h (Below.alloc (Below.refl w.heap.size w) (Nat.le_refl _) o) hB
theorem pred64 {x : Nat} (hx : U64 x) (h0 : 0 < x) : bits .and .u64 (x : Int) (IntKind.u64.wrap ((x : Int) - 1)) = ((x &&& (x - 1) : Nat) : Int) := by
  have hx' : x < 18446744073709551616 := hx
  have e : IntKind.u64.wrap ((x : Int) - 1) = ((x - 1 : Nat) : Int) := by rw [IntKind.wrap_u64]; omega
  rw [e]
  exact u64_and_nat x (x - 1) hx (by omega)

/-- where the inner loop stands in word i -/
def ListRel (p : Int → Bool) (w : World) (B : Nat) (i : Nat) (v x : Value) (wr : World) : Prop :=
  ∃ t : Nat, t ≤ 64 ∧ x = .int .u64 (wordFrom p i t) ∧ wr.ownsRow B 3 1 v (pickN p 0 (64 * i + t)).length ((pickN p 0 (64 * i + t)).map (Value.int .i64)) ∧ Below B w wr

theorem pickN_len (p : Int → Bool) (k : Nat) : (pickN p 0 k).length ≤ k := length_pickN p k 0

theorem run_ix0 (a0 a1 a2 a3 : Nat) (W : World) : (Instr.index 44 (.agg #[.int .u64 a0, .int .u64 a1, .int .u64 a2, .int .u64 a3]) (.int .i64 0)).run Tryd.prog W = .ok (.int .u64 a0) W := by
  simp [Instr.index, run_underlying Tryd.underlying44, asIntOf, part, isAgg, run_underlying Tryd.underlying42, Tryd.sizeOf42]
theorem run_ix1 (a0 a1 a2 a3 : Nat) (W : World) : (Instr.index 44 (.agg #[.int .u64 a0, .int .u64 a1, .int .u64 a2, .int .u64 a3]) (.int .i64 1)).run Tryd.prog W = .ok (.int .u64 a1) W := by
  simp [Instr.index, run_underlying Tryd.underlying44, asIntOf, part, isAgg, run_underlying Tryd.underlying42, Tryd.sizeOf42]
theorem run_ix2 (a0 a1 a2 a3 : Nat) (W : World) : (Instr.index 44 (.agg #[.int .u64 a0, .int .u64 a1, .int .u64 a2, .int .u64 a3]) (.int .i64 2)).run Tryd.prog W = .ok (.int .u64 a2) W := by
  simp [Instr.index, run_underlying Tryd.underlying44, asIntOf, part, isAgg, run_underlying Tryd.underlying42, Tryd.sizeOf42]
theorem run_ix3 (a0 a1 a2 a3 : Nat) (W : World) : (Instr.index 44 (.agg #[.int .u64 a0, .int .u64 a1, .int .u64 a2, .int .u64 a3]) (.int .i64 3)).run Tryd.prog W = .ok (.int .u64 a3) W := by
  simp [Instr.index, run_underlying Tryd.underlying44, asIntOf, part, isAgg, run_underlying Tryd.underlying42, Tryd.sizeOf42]

theorem run_ixk {p : Int → Bool} {a0 a1 a2 a3 : Nat} (h : Four p a0 a1 a2 a3) (k : Nat) (hk : k < 4) (W : World) :
    (Instr.index 44 (.agg #[.int .u64 a0, .int .u64 a1, .int .u64 a2, .int .u64 a3]) (.int .i64 (k : Int))).run Tryd.prog W = .ok (.int .u64 (wordFrom p k 0 : Nat)) W := by
  obtain ⟨rfl, rfl, rfl, rfl⟩ := h
  rw [wordFrom_zero]
  have hk' : k = 0 ∨ k = 1 ∨ k = 2 ∨ k = 3 := by omega
  rcases hk' with rfl | rfl | rfl | rfl
  · exact run_ix0 _ _ _ _ W
  · exact run_ix1 _ _ _ _ W
  · exact run_ix2 _ _ _ _ W
  · exact run_ix3 _ _ _ _ W

/-- what an append leaves of the relation -/
theorem list_step {p : Int → Bool} {w wr w1 : World} {v v' : Value} {k t : Nat} {o : Obj} (hne : wordFrom p k t ≠ 0) (hb : Below w.heap.size w wr)
    (hown : wr.ownsRow w.heap.size 3 1 v (pickN p 0 (64 * k + t)).length ((pickN p 0 (64 * k + t)).map (Value.int .i64)))
    (hown' : w1.ownsRow w.heap.size 3 1 v' ((pickN p 0 (64 * k + t)).length + 1) ((pickN p 0 (64 * k + t)).map (Value.int .i64) ++ [.int .i64 ((k : Int) * 64 + (Lib.ctz 64 (wordFrom p k t) : Nat))])) (hgrow : (wr.alloc o).grownBy w1 v.ownBlock) :
    ListRel p w w.heap.size k v' (.int .u64 (wordFrom p k t &&& (wordFrom p k t - 1) : Nat)) w1 := by
  obtain ⟨h1, h2, h3, h4, h5⟩ := wordFrom_next hne
  have ht := wordFrom_take hne
  refine ⟨Lib.ctz 64 (wordFrom p k t) + 1, by omega, by rw [h5], ?_, ?_⟩
  · rw [ht, List.length_append, List.map_append]
    have e : (((64 * k + Lib.ctz 64 (wordFrom p k t) : Nat) : Int)) = (k : Int) * 64 + (Lib.ctz 64 (wordFrom p k t) : Nat) := by
      generalize Lib.ctz 64 (wordFrom p k t) = c
      omega
    rw [e]
    exact hown'
  · exact (hb.alloc hb.size o).grown hgrow (by have := hb.size; simp; omega) (fun j hj => (hown.lt j hj).1)

set_option maxRecDepth 100000 in
set_option maxHeartbeats 2000000 in
theorem list_any (p : Int → Bool) (a0 a1 a2 a3 : Nat) (h4 : Four p a0 a1 a2 a3) (w : World) (hT : TabAt 0 Lib.deBruijn64tab w) (hB : 0 < w.heap.size) :
    Calls Tryd.prog 22 #[.agg #[.int .u64 a0, .int .u64 a1, .int .u64 a2, .int .u64 a3]] w fun e w' =>
      (∃ v, e = .returned v ∧ w'.ownsRow w.heap.size 3 1 v (pickL p).length ((pickL p).map (Value.int .i64))) ∧ Below w.heap.size w w' := by
  obtain ⟨i0, hi, hz0, hz1, hz2⟩ := info_parts int_info
  have H4 := Lib.hid h4
  have HTAB := Lib.hid hT
  clear h4 hT
  have x0 := run_ix0 a0 a1 a2 a3
  have x1 := run_ix1 a0 a1 a2 a3
  have x2 := run_ix2 a0 a1 a2 a3
  have x3 := run_ix3 a0 a1 a2 a3
  go_enter Tryd.func22, Tryd.ntmps22
  go_wp2
  refine wp_loop_rounds 6 ?_
  rw [rounds_succ]
  go_wp2_with (go_at_call 34; refine (count_any _ _).mono ?_; rintro e w' ⟨⟨n0, hn0, rfl⟩, rfl⟩)
  rw [rounds_succ]
  go_wp2_with (go_at_call 34; refine (count_any _ _).mono ?_; rintro e w' ⟨⟨n1, hn1, rfl⟩, rfl⟩)
  rw [rounds_succ]
  go_wp2_with (go_at_call 34; refine (count_any _ _).mono ?_; rintro e w' ⟨⟨n2, hn2, rfl⟩, rfl⟩)
  rw [rounds_succ]
  go_wp2_with (go_at_call 34; refine (count_any _ _).mono ?_; rintro e w' ⟨⟨n3, hn3, rfl⟩, rfl⟩)
  rw [rounds_succ]
  go_wp2_with (at_make; refine wpList_make_own _ rfl _ _ 29 rfl w.heap.size 3 i0 (.int .i64 0) 1 Tryd.underlying29 hi hz0 hz1 .i64 .i64 _ (n0 + n1 + n2 + n3) rfl rfl (by omega) (by rw [hz2]; omega) (by unfold maxLen; omega) (by simp) ?_; intro w1 hown1 hgrow1; refine Hid.out ?_)
  refine Lib.hid ?_
  have hb1 : Below w.heap.size w w1 := (Below.alloc (Below.refl _ w) (Nat.le_refl _) _).grown hgrow1 (by simp) (fun k hk => by cases hk)
  have hc1 : ∀ i v, (w.alloc (.cells #[.int .u64 a0, .int .u64 a1, .int .u64 a2, .int .u64 a3] 44)).cell? ⟨w.heap.size, i, none⟩ = some v → w1.cell? ⟨w.heap.size, i, none⟩ = some v := fun i v h => hgrow1.cell h (by simp)
  have c0 := hc1 0 (.int .u64 a0) (by go_simp)
  have c1 := hc1 1 (.int .u64 a1) (by go_simp)
  have c2 := hc1 2 (.int .u64 a2) (by go_simp)
  have c3 := hc1 3 (.int .u64 a3) (by go_simp)
  clear hc1 hgrow1 hn0 hn1 hn2 hn3 x0 x1 x2 x3
  go_wp2
  clear c0 c1 c2 c3
  go_loopw [6, 21] (fun v i wr => ∃ k : Nat, k ≤ 4 ∧ i = .int .i64 k ∧ wr.ownsRow w.heap.size 3 1 v (pickN p 0 (64 * k)).length ((pickN p 0 (64 * k)).map (Value.int .i64)) ∧ Below w.heap.size w wr) (fun _ i _ => 4 - (intOf i).toNat)
  case atStart => exact ⟨0, by omega, rfl, by simp at hown1; exact hown1, hb1⟩
  case round =>
    obtain ⟨k, hk, rfl, hownk, hbk⟩ := hrel
    clear hown1 hb1
    by_cases hk4 : k < 4
    · have hix := run_ixk H4.out k hk4
      have hd4 : decide ((k : Int) < 4) = true := by simp; omega
      go_wp2
      clear hix
      go_loopw [6, 8] (fun v x wr => ListRel p w w.heap.size k v x wr) (fun _ x _ => (intOf x).toNat)
      case atStart => exact ⟨0, by omega, rfl, hownk, hbk⟩
      case round =>
        obtain ⟨t, ht, rfl, hown, hb⟩ := hrel
        clear hownk hbk
        by_cases hx : wordFrom p k t = 0
        · have hdone := Lib.hid (wordFrom_done ht hx)
          rw [hx]
          go_wp2
          go_roundw
          case rel => exact ⟨k + 1, by omega, by go_num, by rw [← hdone.out]; exact hown, hb⟩
          case measure => simp [intOf]; omega
        · have HX := Lib.hid hx
          have hx0 : 0 < wordFrom p k t := by omega
          have hlen := pickN_len p (64 * k + t)
          have hc64 := (wordFrom_next hx).1
          have hp := pred64 (wordFrom_lt p k t) hx0
          have hstep := Lib.hid (fun w1 v' o a b => @list_step p w wr w1 _ v' k t o hx hb hown a b)
          clear hx
          have hkk : k < 4 := hk4
          generalize hX : wordFrom p k t = x at *
          have HXX := Lib.hid hX
          clear hX
          have hxu : Hid (U64 x) := Lib.hid (by have := wordFrom_lt p k t; rw [HXX.out] at this; exact this)
          generalize hL : pickN p 0 (64 * k + t) = L at *
          have HL := Lib.hid hL
          clear hL
          go_wp2_with (first
            | (go_at_call 35; refine (tz_any x hxu.out _ (tab_below HTAB.out hb hB)).mono ?_; rintro e w' ⟨rfl, rfl⟩)
            | (at_builtin; refine wpList_append_own _ rfl (.tmp 27) (.tmp 33) 29 rfl w.heap.size 3 i0 (.int .i64 0) 1 8 Tryd.underlying29 hi hz0 hz1 hz2 rfl (by decide) _ _ _ rfl (hown.alloc _) ⟨wr.heap.size, 0, none⟩ 1 1 [.int .i64 ((k : Int) * 64 + (Lib.ctz 64 x : Nat))] rfl rfl ?c1 ?c2 ?c3 ?c4 ?c5 ?_))
          case c1 =>
            intro j u hj
            match j, hj with
            | 0, hj => simp at hj; subst hj; simp [Addr.add]
          case c2 => intro u hu; simp at hu; subst hu; rfl
          case c3 => unfold maxLen; omega
          case c4 => omega
          case c5 => have := hb.size; simp; omega
          intro v' w2 hown' hgrow _
          have R := Lib.hid (hstep.out w2 v' _ hown' hgrow)
          clear hown' hgrow
          go_wp2
          go_roundw
          case rel => exact R.out
          case measure =>
            simp only [intOf]
            have : x &&& (x - 1) ≤ x - 1 := Nat.and_le_right
            simp
            omega
    · have hkn : k = 4 := by omega
      subst hkn
      go_wp2
      go_ret
      exact ⟨⟨_, rfl, hownk⟩, hbk⟩

end Go.Proofs.YtbiofikijehlcaaDoor

namespace Go.Proofs.YtbiofikijehlcaaDoor
open Go.RowKit
open Go.Shelf

def Glob (w : World) : Prop := (w = w)
  ∧ 0 < w.heap.size ∧ TabAt 0 Lib.deBruijn64tab w
theorem Glob.next {w w' : World} (h : Glob w) (hb : Below w.heap.size w w') : Glob w' := by
  have _h := h
  have _hb := hb
  first
    | exact rfl
    | exact ⟨rfl, Nat.lt_of_lt_of_le h.2.1 hb.size, tab_below h.2.2 hb h.2.1⟩
theorem Glob.pos {w : World} (h : Glob w) : 0 < w.heap.size := h.2.1
theorem Glob.tz {w : World} (h : Glob w) : TabAt 0 Lib.deBruijn64tab w := h.2.2

end Go.Proofs.YtbiofikijehlcaaDoor

namespace Go.Proofs.YtbiofikijehlcaaDoor
open Go.RowKit

/-- a holding as an element: four cells, one of them a slice of numbers -/
def EH : Elem Hd := fun w ok x vs => ∃ A m c, vs = [.int .i64 x.id, .slice A m c, .int .i64 x.frm, .int .i64 x.to] ∧ RN EI 1 w ok A m x.things ∧ (A = none → c = 0) ∧ m ≤ c ∧ m ≤ maxLen ∧ (I64 x.id ∧ I64 x.frm ∧ I64 x.to ∧ ∀ n ∈ x.things, I64 n)
theorem eh_steady : Steady EH := ⟨fun ⟨A, m, c, h1, h2, h3⟩ hk ho => ⟨A, m, c, h1, h2.keep ei_steady hk ho, h3⟩⟩
/-- '.slice A n c' reads as the table l, all below block B -/
def RT (w : World) (B : Nat) (A : Option Addr) (n : Nat) (l : Tb) : Prop := RN EH 4 w (Lt B) A n l
/-- a holding by value: what is asked of it -/
structure HAsk (w : World) (A : Option Addr) (m c : Nat) (h : Hd) : Prop where
  reads : RI w w.heap.size A m h.things
  nil : A = none → c = 0
  cap : m ≤ c
  few : m ≤ maxLen
  int : I64 h.id ∧ I64 h.frm ∧ I64 h.to ∧ ∀ n ∈ h.things, I64 n
def hV (h : Hd) (A : Option Addr) (m c : Nat) : Value := .agg #[.int .i64 h.id, .slice A m c, .int .i64 h.frm, .int .i64 h.to]
section
variable {w w' : World} {B n m c : Nat} {A : Option Addr} {l : Tb} {h : Hd}
theorem HAsk.next (h0 : HAsk w A m c h) (hb : Below w.heap.size w w') : HAsk w' A m c h := ⟨h0.reads.next hb, h0.nil, h0.cap, h0.few, h0.int⟩
theorem RT.len (h : RT w B A n l) : l.length = n := h.1
theorem RT.nil : RT w B A 0 [] := RN.nil
theorem RT.next (h : RT w w.heap.size A n l) (hb : Below w.heap.size w w') : RT w' w'.heap.size A n l := RN.next eh_steady h hb
theorem RT.below (h : RT w B A n l) (hb : Below B w w') : RT w' B A n l := RN.below eh_steady h hb
theorem RT.drewN (h : RT w B A n l) (k : Nat) : RT (w.drewN k) B A n l := RN.drewN h eh_steady k
/-- the k-th holding: its cells, and what is asked of it -/
theorem RT.one (h : RT w w.heap.size A n l) {k : Nat} (hk : k < n) : ∃ b off A2 m2 c2, A = some ⟨b, off, none⟩ ∧ b < w.heap.size ∧ w.cell? ⟨b, off + k * 4, none⟩ = some (.int .i64 (l.getD k hd0).id) ∧ w.cell? ⟨b, off + k * 4 + 1, none⟩ = some (.slice A2 m2 c2) ∧ w.cell? ⟨b, off + k * 4 + 2, none⟩ = some (.int .i64 (l.getD k hd0).frm) ∧ w.cell? ⟨b, off + k * 4 + 3, none⟩ = some (.int .i64 (l.getD k hd0).to) ∧ HAsk w A2 m2 c2 (l.getD k hd0) := by
  have hl : k < l.length := by rw [h.1]; exact hk
  obtain ⟨b, off, vs, e, hb, _, hc, A2, m2, c2, hv, hr, h1, h2, h3, h4⟩ := RN.at h (List.getElem?_eq_getElem hl)
  subst hv
  have hg : l.getD k hd0 = l[k] := by rw [List.getD, List.getElem?_eq_getElem hl]; rfl
  rw [hg]
  exact ⟨b, off, A2, m2, c2, e, hb, hc 0 _ rfl, hc 1 _ rfl, hc 2 _ rfl, hc 3 _ rfl, ⟨RN.ri hr, h1, h2, h3, h4⟩⟩
end
/-- the k-th holding, as an element -/
theorem RT.el {w : World} {B n : Nat} {A : Option Addr} {l : Tb} (h : RT w B A n l) {k : Nat} (hk : k < n) : ∃ b off A2 m2 c2, A = some ⟨b, off, none⟩ ∧ b < B ∧ w.cell? ⟨b, off + k * 4, none⟩ = some (.int .i64 (l.getD k hd0).id) ∧ w.cell? ⟨b, off + k * 4 + 1, none⟩ = some (.slice A2 m2 c2) ∧ w.cell? ⟨b, off + k * 4 + 2, none⟩ = some (.int .i64 (l.getD k hd0).frm) ∧ w.cell? ⟨b, off + k * 4 + 3, none⟩ = some (.int .i64 (l.getD k hd0).to) ∧ EH w (Lt B) (l.getD k hd0) [.int .i64 (l.getD k hd0).id, .slice A2 m2 c2, .int .i64 (l.getD k hd0).frm, .int .i64 (l.getD k hd0).to] := by
  have hl : k < l.length := by rw [h.1]; exact hk
  obtain ⟨b, off, vs, e, hb, _, hc, hE⟩ := RN.at h (List.getElem?_eq_getElem hl)
  obtain ⟨A2, m2, c2, hv, h5⟩ := id hE
  subst hv
  have hg : l.getD k hd0 = l[k] := by rw [List.getD, List.getElem?_eq_getElem hl]; rfl
  rw [hg]
  exact ⟨b, off, A2, m2, c2, e, hb, hc 0 _ rfl, hc 1 _ rfl, hc 2 _ rfl, hc 3 _ rfl, hE⟩
theorem held_info : (Tryd.prog.info? 37).map (fun i => (i.zero, i.size, i.bytes)) = some (some (.agg #[.int .i64 0, .slice none 0 0, .int .i64 0, .int .i64 0]), 4, 48) := by kernel_rfl
/-- a block that holds a holding -/
def hO (h : Hd) (A : Option Addr) (m c : Nat) : Obj := .cells #[.int .i64 h.id, .slice A m c, .int .i64 h.frm, .int .i64 h.to] 37
structure BoxH (wr : World) (g : Nat) (h : Hd) (A : Option Addr) (m c : Nat) : Prop where
  lt : g < wr.heap.size
  at' : wr.heap[g]? = some (hO h A m c)
section
variable {wr w' : World} {g m c : Nat} {h : Hd} {A : Option Addr}
theorem BoxH.next (h0 : BoxH wr g h A m c) (hb : Below wr.heap.size wr w') : BoxH w' g h A m c := ⟨Nat.lt_of_lt_of_le h0.lt hb.size, (hb.block _ h0.lt).trans h0.at'⟩
theorem boxH_new (w : World) (h : Hd) (A : Option Addr) (m c : Nat) : BoxH (w.alloc (hO h A m c)) w.heap.size h A m c := ⟨by simp, heap_alloc_new w _⟩
theorem BoxH.c0 (h0 : BoxH wr g h A m c) : wr.cell? ⟨g, 0, none⟩ = some (.int .i64 h.id) := (cell_of_row wr g 0 _ _ (0, 0) h0.at').trans rfl
theorem BoxH.c1 (h0 : BoxH wr g h A m c) : wr.cell? ⟨g, 1, none⟩ = some (.slice A m c) := (cell_of_row wr g 1 _ _ (0, 0) h0.at').trans rfl
theorem BoxH.c2 (h0 : BoxH wr g h A m c) : wr.cell? ⟨g, 2, none⟩ = some (.int .i64 h.frm) := (cell_of_row wr g 2 _ _ (0, 0) h0.at').trans rfl
theorem BoxH.c3 (h0 : BoxH wr g h A m c) : wr.cell? ⟨g, 3, none⟩ = some (.int .i64 h.to) := (cell_of_row wr g 3 _ _ (0, 0) h0.at').trans rfl
theorem BoxH.frozen (h0 : BoxH wr g h A m c) (j : Nat) : wr.frozen? ⟨g, j, none⟩ = false := frozen_of_row wr g j _ _ h0.at'
end

/-- a table and an error's number -/
def TEPost (a : Tb) (er : Int) (w : World) (e : Ending) (w' : World) : Prop :=
  (∃ A1 c1, e = .returned (.tuple #[.slice A1 a.length c1, .int .i64 er]) ∧ RT w' w'.heap.size A1 a.length a ∧ (A1 = none → c1 = 0) ∧ a.length ≤ c1) ∧ Below w.heap.size w w'
theorem tepost_mk {A : Option Addr} {n c : Nat} {l : Tb} {er : Int} {w w' : World} (hr : RT w' w'.heap.size A n l) (hnil : A = none → c = 0) (hnc : n ≤ c) (hb : Below w.heap.size w w') : TEPost l er w (.returned (.tuple #[.slice A n c, .int .i64 er])) w' := by
  have := hr.len
  subst this
  exact ⟨⟨A, c, rfl, hr, hnil, hnc⟩, hb⟩
/-- a table that is asked about -/
structure TAsk (w : World) (A : Option Addr) (n c : Nat) (l : Tb) : Prop where
  reads : RT w w.heap.size A n l
  nil : A = none → c = 0
  cap : n ≤ c
  few : n ≤ maxLen
theorem TAsk.next {w w' : World} {A : Option Addr} {n c : Nat} {l : Tb} (h : TAsk w A n c l) (hb : Below w.heap.size w w') : TAsk w' A n c l := ⟨h.reads.next hb, h.nil, h.cap, h.few⟩
/-- a holding by value, as an element: what it reaches was there -/
theorem HAsk.el {w w' : World} {A : Option Addr} {m c : Nat} {h : Hd} (hh : HAsk w A m c h) (hb : Below w.heap.size w w') : EH w' (Lt w.heap.size) h [.int .i64 h.id, .slice A m c, .int .i64 h.frm, .int .i64 h.to] := by
  refine ⟨A, m, c, rfl, ⟨hh.reads.1, fun h0 => ?_⟩, hh.nil, hh.cap, hh.few, hh.int⟩
  obtain ⟨b, off, e, hlt, hc⟩ := hh.reads.2 h0
  refine ⟨b, off, e, hlt, fun j x hx => ⟨[.int .i64 x], rfl, fun i v hv => ?_, rfl⟩⟩
  have hj := (List.getElem?_eq_some_iff.1 hx).1
  have hi : i = 0 := by have := (List.getElem?_eq_some_iff.1 hv).1; simpa using this
  subst hi
  have hv' : Value.int .i64 x = v := by simpa using hv
  subst hv'
  rw [show off + (j * 1 + 0) = off + j by omega]
  have := (hb.cell (p := ⟨b, off + j, none⟩) hlt).trans (hc j (by have := hh.reads.1; omega))
  rw [this, List.getD, hx]
  rfl

end Go.Proofs.YtbiofikijehlcaaDoor

namespace Go.Proofs.YtbiofikijehlcaaDoor
open Go.ChangeShapes Go.WideShapes Go.ChangeAt Go.RowKit Go.Deep

set_option maxRecDepth 100000 in
theorem open_things {H : Type} {enc : TypeId × Value → H} {W : World} {v : Value} {x : DataW H × List MemPlace} {fuel : Nat}
    (hf : DataW.trod enc Tryd.prog W 0 (fun _ => true) true fuel 29 [v] = some x) : ∃ A m c xs, v = .slice A m c ∧ RN EI 1 W (Lt W.heap.size) A m xs ∧ (A = none → c = 0) ∧ m ≤ c ∧ m ≤ maxLen ∧ ∀ n ∈ xs, I64 n := by
  obtain ⟨A, n, c, xs, e, hr, h1, h2, h3⟩ := open_RN (E := fun w ok x vs => EI w ok x vs ∧ I64 x) (C := 1) Tryd.underlying29 (by kernel_rfl) (by omega) (fun n cs y _ ht => by
    obtain ⟨z, e, _, wz⟩ := DataW.trod_int Tryd.underlying3 ht
    exact ⟨z, by rw [e]; rfl, i64_wf wz⟩) hf
  refine ⟨A, n, c, xs, by simpa using e, ⟨hr.1, fun hn => ?_⟩, h1, h2, h3, fun z hz => ?_⟩
  · obtain ⟨b, off, e, hb, hc⟩ := hr.2 hn
    refine ⟨b, off, e, hb, fun j x hx => ?_⟩
    obtain ⟨vs, a1, a2, a3⟩ := hc j x hx
    exact ⟨vs, a1, a2, a3.1⟩
  · obtain ⟨j, hj, rfl⟩ := List.getElem_of_mem hz
    obtain ⟨b, off, e, hb, hc⟩ := hr.2 (by have := hr.1; omega)
    obtain ⟨vs, a1, a2, a3⟩ := hc j _ (List.getElem?_eq_getElem hj)
    exact a3.2
set_option maxRecDepth 100000 in
theorem open_held {H : Type} {enc : TypeId × Value → H} {W : World} {cs : List Value} {x : DataW H × List MemPlace} {fuel : Nat}
    (hl : cs.length = 4) (hf : DataW.trod enc Tryd.prog W 0 (fun _ => true) true fuel 37 cs = some x) : ∃ h, EH W (Lt W.heap.size) h cs := by
  obtain ⟨ys, n', hn', hy, hlen, hyl, hfs⟩ := DataW.trod_struct Tryd.underlying37 hf
  obtain ⟨v0, v1, v2, v3, rfl⟩ : ∃ v0 v1 v2 v3, cs = [v0, v1, v2, v3] := by
    match cs, hl with
    | [a, b, c, d], _ => exact ⟨a, b, c, d, rfl⟩
  have ci : Tryd.prog.cellsOf 3 = 1 := by kernel_rfl
  have cs' : Tryd.prog.cellsOf 29 = 1 := by kernel_rfl
  have cl : Tryd.prog.cellsOf 2 = 1 := by kernel_rfl
  have h0 : DataW.trod enc Tryd.prog W 0 (fun _ => true) true n' 3 (List.take (Tryd.prog.cellsOf 3) [v0, v1, v2, v3]) = ys[0]? := hfs 0 _ rfl
  have h1 : DataW.trod enc Tryd.prog W 0 (fun _ => true) true n' 29 (List.take (Tryd.prog.cellsOf 29) [v1, v2, v3]) = ys[1]? := hfs 1 _ rfl
  have h2 : DataW.trod enc Tryd.prog W 0 (fun _ => true) true n' 2 (List.take (Tryd.prog.cellsOf 2) [v2, v3]) = ys[2]? := hfs 2 _ rfl
  have h3 : DataW.trod enc Tryd.prog W 0 (fun _ => true) true n' 2 (List.take (Tryd.prog.cellsOf 2) [v3]) = ys[3]? := hfs 3 _ rfl
  rw [ci] at h0
  rw [cs'] at h1
  rw [cl] at h2 h3
  obtain ⟨y0, y1, y2, y3, rfl⟩ : ∃ y0 y1 y2 y3, ys = [y0, y1, y2, y3] := by
    match ys, hyl with
    | [a, b, c, d], _ => exact ⟨a, b, c, d, rfl⟩
  obtain ⟨z0, e0, _, w0⟩ := DataW.trod_int Tryd.underlying3 h0
  obtain ⟨A, m, c, xs, e1, hr, a1, a2, a3, a4⟩ := open_things h1
  obtain ⟨z2, e2, _, w2⟩ := DataW.trod_int Tryd.underlying2 h2
  obtain ⟨z3, e3, _, w3⟩ := DataW.trod_int Tryd.underlying2 h3
  simp at e0 e2 e3
  subst e0 e1 e2 e3
  exact ⟨⟨z0, xs, z2, z3⟩, A, m, c, rfl, hr, a1, a2, a3, i64_wf w0, i64_wf w2, i64_wf w3, a4⟩
set_option maxRecDepth 100000 in
theorem open_RT {H : Type} {enc : TypeId × Value → H} {W : World} {b0 : Nat} {v : Value} {d : DataW H} {ps : List MemPlace}
    (hval : Value.okWide Tryd.prog W .any b0 22 v) (h : DataW.Trod enc Tryd.prog W 0 (fun _ => true) true 22 v d ps) :
    ∃ A n c l, v = .slice A n c ∧ TAsk W A n c l := by
  obtain ⟨fuel, hf⟩ := h
  obtain ⟨a', n', c', rfl⟩ := okWide_slice Tryd.underlying22 hval
  obtain ⟨A, n, c, xs, e, hr, h1, h2, h3⟩ := open_RN (E := EH) (C := 4) Tryd.underlying22 (by kernel_rfl) (by omega) (fun n cs y hl ht => open_held hl ht) hf
  simp [Value.cells] at e
  obtain ⟨rfl, rfl, rfl⟩ := e
  exact ⟨_, _, _, xs, rfl, hr, h1, h2, h3⟩
set_option maxRecDepth 100000 in
theorem open_H {H : Type} {enc : TypeId × Value → H} {W : World} {b0 : Nat} {v : Value} {d : DataW H} {ps : List MemPlace}
    (hval : Value.okWide Tryd.prog W .any b0 37 v) (h : DataW.Trod enc Tryd.prog W 0 (fun _ => true) true 37 v d ps) :
    ∃ A m c h, v = .agg #[.int .i64 h.id, .slice A m c, .int .i64 h.frm, .int .i64 h.to] ∧ HAsk W A m c h := by
  obtain ⟨fuel, hf⟩ := h
  obtain ⟨cs, rfl, hsz⟩ := okWide_struct Tryd.underlying37 hval
  have c4 : Tryd.prog.cellsOf 37 = 4 := by kernel_rfl
  obtain ⟨h, A, m, c, hv, hr, h1, h2, h3, h4⟩ := open_held (by simpa [Value.cells] using hsz.trans c4) hf
  refine ⟨A, m, c, h, ?_, RN.ri hr, h1, h2, h3, h4⟩
  congr 1
  apply Array.ext'
  simpa [Value.cells] using hv

end Go.Proofs.YtbiofikijehlcaaDoor

namespace Go.Proofs.YtbiofikijehlcaaDoor
open Go.ChangeShapes Go.WideShapes Go.ChangeAt Go.RowKit

section
variable {H : Type} {enc : TypeId × Value → H} {P : Program}
/-- one of the listed variables, by its place -/
theorem laid_at {w : World} : ∀ {laid : List (String × DataW Unit)} {ps : List MemPlace}, DataW.LaidVars P w laid ps → ∀ (i : Nat) (n : String) (d : DataW Unit), laid[i]? = some (n, d) →
    ∃ g t cs fuel p, P.globalNamed n = some g ∧ (P.globals[g]?).map (·.type) = some t ∧ w.var? P n = some cs ∧ DataW.trod (fun _ => ()) P w 0 (fun _ => true) false fuel t cs.toList = some (d, p)
  | [], _, _, i, n, d, h => by simp at h
  | (m, x) :: r, ps, hl, i, n, d, h => by
    obtain ⟨g, t, cs, fuel, p, q, h1, h2, h3, h4, h5, _⟩ := hl
    cases i with
    | zero =>
      simp only [List.getElem?_cons_zero, Option.some.injEq, Prod.mk.injEq] at h
      obtain ⟨rfl, rfl⟩ := h
      exact ⟨g, t, cs, fuel, p, h1, h2, h3, h4⟩
    | succ i => exact laid_at h5 i n d (by simpa using h)

theorem tabIs_at {W : World} {name : String} {k : IntKind} {zs : List Int} {laid : List (String × DataW Unit)} {g : Nat} {t e : TypeId} {n : Nat}
    (hg : P.globalNamed name = some g) (hty : (P.globals[g]?).map (·.type) = some t) (ht : P.underlying t = some (.array n e)) (he : P.underlying e = some (.int k)) (hce : P.cellsOf e = 1) (hct : P.cellsOf t = n)
    (h : laidMet P laid W) (i : Nat) (hi : laid[i]? = some (name, Lib.tabData k zs)) : Lib.TabIs P W name k zs := by
  obtain ⟨ps, hl, _⟩ := h
  obtain ⟨g', t', cs, fuel, p, hg', ht', hvar, hd⟩ := laid_at hl i _ _ hi
  obtain rfl := Option.some.inj (hg.symm.trans hg')
  obtain rfl := Option.some.inj (hty.symm.trans ht')
  unfold Lib.TabIs
  rw [hvar, ← Lib.cells_of_tab ht he hce hct hd]

/-- the wrap that hands on the list and the world's shape -/
theorem returnsInHanded_of_laid {a : Assume} {C : Checked} {os : Os} {f : FuncId} {fn : Func} {s : ChangeSpec} {conds : List PathCond} {apart fresh handsOn again : Bool} {X : World → Array Value → Prop}
    (hX : ∀ (w w' : World) (args : Array Value), w.heap = w'.heap → X w args → X w' args)
    (own : ownKnob C.prog.godebug = none) (started : os.Started) (noInit : C.prog.inits.idxOf? f = none) (hfn : C.prog.funcs[f]? = some fn)
    (witness : ∃ (w : World) (tape : Tape) (i : Input), w.os = os ∧ (w.forCall tape i).Shaped C.prog ∧ i.vars = [] ∧ Input.okWide C.prog (w.forCall tape i) .any w.heap.size f i ∧
      ((s.pre enc C.prog fn conds apart (w.forCall tape i).memory i.args ∧ X (w.forCall tape i).memory i.args) ∧ sizedMet enc C.prog fn (OpenSpec.ofChange s) apart (w.forCall tape i).memory i.args) ∧ a.holds C.prog (lone (Frame.enter C.prog f i.args .normal) [] (w.forCall tape i)))
    (contract : ∀ (W : World) (base : Nat) (args : Array Value) (ds gs : List (DataW H)) (before : List MemPlace),
      (∀ (j : Nat) t v, fn.params[j]? = some t → args[j]? = some v → Value.okWide C.prog W .any base t v) →
      DataW.Whole enc C.prog fn.params.toList s.vars apart W args.toList ds gs before →
      conds.all (PathCond.test C.prog ⟨fn.params.toList, ds, s.plain.varTypes C.prog, gs⟩) = true →
      X W args → W.ShapedOpen C.prog →
      Calls C.prog f args W fun e W' => ∃ v, e = .returned v ∧ s.post enc C.prog fn apart fresh handsOn again W args v W') :
    ReturnsInHanded a C os f .any (fun w args => (s.pre enc C.prog fn conds apart w args ∧ X w args) ∧ sizedMet enc C.prog fn (OpenSpec.ofChange s) apart w args) (s.post enc C.prog fn apart fresh handsOn again) := by
  refine returnsInHanded_of_calls own started noInit witness ?_
  intro w tape i _ hsh _ hok hpre _
  obtain ⟨_, _, _, fn', hfn', _, _, _, _, hval⟩ := hok
  have e : fn' = fn := Option.some.inj (hfn'.symm.trans hfn)
  subst e
  obtain ⟨⟨⟨ds, gs, before, hw, hc⟩, hx⟩, hz⟩ := hpre
  have hw' := DataW.Whole.of_heap (w' := w.forCall tape i) (by rfl) hw
  refine (contract (w.forCall tape i) w.heap.size i.args ds gs before hval hw' hc (hX _ _ _ (by rfl) hx) hsh).mono fun e W' ⟨v, he, hp⟩ => ?_
  subst he
  exact ChangeSpec.post_blind hp
end

theorem glob_of {laid : List (String × DataW Unit)} {W : World} (i : Nat) (hp : laidMetH Tryd.prog laid W = laidMet Tryd.prog laid W) (hi : laid[i]? = some ("math/bits.deBruijn64tab", Lib.tabData .u8 (Lib.deBruijn64tab.map Int.ofNat))) (h : laidMetH Tryd.prog laid W) : Glob W := by
  rw [hp] at h
  have h64 : Lib.TabIs Tryd.prog W "math/bits.deBruijn64tab" .u8 (Lib.deBruijn64tab.map Int.ofNat) :=
    tabIs_at (g := 0) (t := 72) (e := 5) (by kernel_rfl) (by kernel_rfl) Tryd.underlying72 Tryd.underlying5 (by kernel_rfl) (by kernel_rfl) h i hi
  refine ⟨rfl, ?_, fun j hj => ?_⟩
  · have := h64.cell (g := 0) (by kernel_rfl) 0 (by decide)
    have : 0 < W.heap.size := World.block_lt_of_cell? W _ this
    omega
  · have := h64.cell (g := 0) (by kernel_rfl) j (by simpa using hj)
    rw [this]
    simp [List.getD, hj]

set_option maxRecDepth 100000 in
/-- a law's frame: from its walk to what the row says -/
theorem lifted_tied {os : Os} {H : Type} {enc : TypeId × Value → H} {f : FuncId} {fn : Func} {s : ChangeSpec} {conds : List PathCond} {apart : Bool} {laid : List (String × DataW Unit)}
    (hglob : ∀ W, laidMetH Tryd.prog laid W → Glob W)
    (started : os.Started) (noInit : Tryd.prog.inits.idxOf? f = none) (hfn : Tryd.prog.funcs[f]? = some fn) (hrt : fn.resultTypes = #[4]) (hv : s.vars = [])
    (hrows : ∀ t ∈ fn.params.toList, Tryd.prog.readableRec t = true ∧ t < Tryd.prog.types.size)
    (witness : ∃ (w : World) (tape : Tape) (i : Input), w.os = os ∧ (w.forCall tape i).Shaped Tryd.checked.prog ∧ i.vars = [] ∧ Input.okWide Tryd.checked.prog (w.forCall tape i) .any w.heap.size f i ∧
      ((s.pre enc Tryd.checked.prog fn conds apart (w.forCall tape i).memory i.args ∧ laidMetH Tryd.prog laid (w.forCall tape i).memory) ∧ sizedMet enc Tryd.checked.prog fn (OpenSpec.ofChange s) apart (w.forCall tape i).memory i.args) ∧ ({ modest := false } : Assume).holds Tryd.checked.prog (lone (Frame.enter Tryd.checked.prog f i.args .normal) [] (w.forCall tape i)))
    (walk : ∀ (W : World) (base : Nat) (args : Array Value) (ds : List (DataW H)) (p : List MemPlace),
      (∀ (j : Nat) t v, fn.params[j]? = some t → args[j]? = some v → Value.okWide Tryd.prog W .any base t v) →
      DataW.TrodAll enc Tryd.prog W 0 (fun _ => true) true fn.params.toList args.toList ds p → Glob W →
      s.fn H ds = { results := [.lit (.bool true)], args := ds } ∧ Calls Tryd.prog f args W fun e W' => e = .returned (.bool true) ∧ Below W.heap.size W W') :
    ReturnsInHanded {} Tryd.checked os f .any (fun w args => (s.pre enc Tryd.prog fn conds apart w args ∧ laidMetH Tryd.prog laid w) ∧ sizedMet enc Tryd.prog fn (OpenSpec.ofChange s) apart w args) (s.post enc Tryd.prog fn apart true false false) := by
  refine returnsInHanded_of_laid (C := Tryd.checked) (X := fun w _ => laidMetH Tryd.prog laid w) (fun _ _ _ hh h => h.of_heap hh) own_knob started noInit hfn witness ?_
  intro W base args ds gs before hval hW _ hL _
  have hW' := hW
  obtain ⟨p, q, hA, hV, rfl, _, _⟩ := hW
  rw [hv] at hV
  obtain ⟨rfl, rfl⟩ := trodVars_none hV
  obtain ⟨hs, hw⟩ := walk W base args ds p hval hA (hglob W hL)
  refine hw.mono fun e W' ⟨he, hb⟩ => ?_
  subst he
  exact ⟨_, rfl, post_true laid_out Tryd.underlying4 hrt hv hrows (by simpa using hs) hW' hb⟩

end Go.Proofs.YtbiofikijehlcaaDoor

namespace Go.Proofs.YtbiofikijehlcaaDoor
open Go.RowKit

/-- a table that can be looked at whole: few holdings of few things -/
def FewT (l : Tb) : Prop := l.length ≤ 100 ∧ ∀ h ∈ l, h.things.length ≤ 100
theorem FewT.at {l : Tb} (h : FewT l) {k : Nat} (hk : k < l.length) : (l.getD k hd0).things.length ≤ 100 := by
  rw [List.getD, List.getElem?_eq_getElem hk]
  exact h.2 _ (List.getElem_mem hk)

/-- a holding and a yes or no -/
def GPost (h : Hd) (b : Bool) (w : World) (e : Ending) (w' : World) : Prop :=
  (∃ A m c, e = .returned (.tuple #[.agg #[.int .i64 h.id, .slice A m c, .int .i64 h.frm, .int .i64 h.to], .bool b]) ∧ HAsk w' A m c h) ∧ Below w.heap.size w w'
/-- a table, a holding, and no error -/
def DPost (l : Tb) (h : Hd) (w : World) (e : Ending) (w' : World) : Prop :=
  (∃ A1 n1 c1 A m c, e = .returned (.tuple #[.slice A1 n1 c1, .agg #[.int .i64 h.id, .slice A m c, .int .i64 h.frm, .int .i64 h.to], .int .i64 0]) ∧ (RT w' w'.heap.size A1 n1 l ∧ (A1 = none → c1 = 0) ∧ n1 ≤ c1) ∧ HAsk w' A m c h) ∧ Below w.heap.size w w'
/-- some table and an error's number -/
def CPost (er : Int) (w : World) (e : Ending) (w' : World) : Prop :=
  (∃ A1 n1 c1, e = .returned (.tuple #[.slice A1 n1 c1, .int .i64 er])) ∧ Below w.heap.size w w'
/-- two tables -/
def TTPost (a b : Tb) (w : World) (e : Ending) (w' : World) : Prop :=
  (∃ A1 c1 A2 c2, e = .returned (.tuple #[.slice A1 a.length c1, .slice A2 b.length c2]) ∧ RT w' w'.heap.size A1 a.length a ∧ RT w' w'.heap.size A2 b.length b ∧ ((A1 = none → c1 = 0) ∧ a.length ≤ c1) ∧ ((A2 = none → c2 = 0) ∧ b.length ≤ c2)) ∧ Below w.heap.size w w'

end Go.Proofs.YtbiofikijehlcaaDoor
