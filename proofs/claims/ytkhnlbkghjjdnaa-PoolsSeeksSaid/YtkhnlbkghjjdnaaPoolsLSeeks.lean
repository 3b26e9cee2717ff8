/- The statement PoolsSeeks, as a walk over the contracts: of any pools, time, length and amounts the call returns true. -/
import Derived.Test.YtkhnlbkghjjdnaaPoolsAwake
namespace Go.Proofs.Ytkhnlbkghjjdnaa
open Go.RowKit

set_option maxRecDepth 100000 in
set_option maxHeartbeats 4000000 in
theorem poolsSeeks_far (H : PoolsOk) (A : Option Addr) (n c : Nat) (A2 : Option Addr) (n2 c2 : Nat) (ls : List (List (Int × Int))) (a l : Int) (w : World) (hr : RSS w w.heap.size A n ls) (hn : n ≤ maxLen) (hn2 : n2 ≤ maxLen) (hf : shortB ls = false ∨ 10 < n2) :
    Calls Try.prog 5 #[.slice A n c, .int .i64 a, .int .i64 l, .slice A2 n2 c2] w fun e w' => e = .returned (.bool true) ∧ Below w.heap.size w w' := by
  have HR := Lib.hid hr
  have HN := Lib.hid hn
  unfold maxLen at hn2
  cases hs : shortB ls with
  | false =>
    have HS := Lib.hid hs
    clear hs hf hr hn
    go_enter Try.func5, Try.ntmps5
    go_wp2_with fail
    refine (poolsAwake_any H _).mono ?_
    rintro e w1 ⟨rfl, hb1⟩
    have HB1 := Lib.hid hb1
    clear hb1
    go_wp2_with fail
    refine (calls_bool (short_any _ _ _ ls _ (HR.out.next HB1.out) HN.out) HS.out).mono ?_
    rintro e w2 ⟨rfl, hb2⟩
    have HB2 := Lib.hid (HB1.out.trans (hb2.mono HB1.out.size))
    clear hb2
    go_wp2
    go_ret
    exact ⟨rfl, HB2.out⟩
  | true =>
    have HS := Lib.hid hs
    have h10 : 10 < n2 := by rcases hf with h | h; (rw [h] at hs; cases hs); exact h
    clear hs hf hr hn
    go_enter Try.func5, Try.ntmps5
    go_wp2_with fail
    refine (poolsAwake_any H _).mono ?_
    rintro e w1 ⟨rfl, hb1⟩
    have HB1 := Lib.hid hb1
    clear hb1
    go_wp2_with fail
    refine (calls_bool (short_any _ _ _ ls _ (HR.out.next HB1.out) HN.out) HS.out).mono ?_
    rintro e w2 ⟨rfl, hb2⟩
    have HB2 := Lib.hid (HB1.out.trans (hb2.mono HB1.out.size))
    clear hb2
    go_wp2
    go_ret
    exact ⟨rfl, HB2.out⟩
set_option maxRecDepth 100000 in
set_option maxHeartbeats 4000000 in
theorem poolsSeeks_near (H : PoolsOk) (A : Option Addr) (n c : Nat) (A2 : Option Addr) (n2 c2 : Nat) (ls : List (List (Int × Int))) (ns : List Int) (a l : Int) (w : World) (hp : PAsk w A n c ls) (hq : NAsk w A2 n2 ns) (hs : shortB ls = true) (ha : I64 a) (hl : I64 l) (t : Int) (b : Bool) (ht : firstPP ls a l ns = (t, b)) :
    Calls Try.prog 5 #[.slice A n c, .int .i64 a, .int .i64 l, .slice A2 n2 c2] w fun e w' => e = .returned (.bool true) ∧ Below w.heap.size w w' := by
  have FP := Lib.hid hp
  have FN := Lib.hid hq
  have HS := Lib.hid hs
  have hk10 := hp.kinds
  have hf10 := hq.few
  have HB := Lib.hid (Below.refl w.heap.size w)
  have H_a := Lib.hid ha
  have ha1 := ha.1
  have ha2 := ha.2
  have H_l := Lib.hid hl
  have hl1 := hl.1
  have hl2 := hl.2
  have HT := Lib.hid ht
  clear hp hq hs ha hl ht
  go_enter Try.func5, Try.ntmps5
  go_wp2_with fail
  refine (poolsAwake_any H _).mono ?_
  rintro e w1 ⟨rfl, hb1⟩
  have hBz := HB.out.size
  have HB2 := Lib.hid (HB.out.trans (hb1.mono hBz))
  clear HB hBz
  have HB := HB2
  clear HB2
  have FP2 := Lib.hid (FP.out.next hb1)
  clear FP
  have FP := FP2
  clear FP2
  have FN2 := Lib.hid (FN.out.next hb1)
  clear FN
  have FN := FN2
  clear FN2
  clear hb1
  go_wp2_with fail
  refine (calls_bool (short_any _ _ _ ls _ FP.out.reads (ml10 FP.out.kinds)) HS.out).mono ?_
  rintro e w2 ⟨rfl, hb2⟩
  have hBz := HB.out.size
  have HB2 := Lib.hid (HB.out.trans (hb2.mono hBz))
  clear HB hBz
  have HB := HB2
  clear HB2
  have FP2 := Lib.hid (FP.out.next hb2)
  clear FP
  have FP := FP2
  clear FP2
  have FN2 := Lib.hid (FN.out.next hb2)
  clear FN
  have FN := FN2
  clear FN2
  clear hb2
  go_wp2_with fail
  refine (calls_first (H.first _ _ _ _ _ _ _ a l _ _ FP.out FN.out H_a.out H_l.out) HT.out).mono ?_
  rintro e w3 ⟨rfl, hb3⟩
  have hBz := HB.out.size
  have HB2 := Lib.hid (HB.out.trans (hb3.mono hBz))
  clear HB hBz
  have HB := HB2
  clear HB2
  have FP2 := Lib.hid (FP.out.next hb3)
  clear FP
  have FP := FP2
  clear FP2
  have FN2 := Lib.hid (FN.out.next hb3)
  clear FN
  have FN := FN2
  clear FN2
  clear hb3
  go_wp2_with fail
  refine (calls_first (r_first FP.out FN.out H_l.out) HT.out).mono ?_
  rintro e w4 ⟨rfl, hb4⟩
  have hBz := HB.out.size
  have HB2 := Lib.hid (HB.out.trans (hb4.mono hBz))
  clear HB hBz
  have HB := HB2
  clear HB2
  have FP2 := Lib.hid (FP.out.next hb4)
  clear FP
  have FP := FP2
  clear FP2
  have FN2 := Lib.hid (FN.out.next hb4)
  clear FN
  have FN := FN2
  clear FN2
  clear hb4
  go_wp2
  go_ret
  exact ⟨rfl, HB.out⟩

theorem poolsSeeks_walk (H : PoolsOk) (A : Option Addr) (n c : Nat) (A2 : Option Addr) (n2 c2 : Nat) (ls : List (List (Int × Int))) (ns : List Int) (a l : Int) (w : World) (hr : RSS w w.heap.size A n ls) (hnil : A = none → c = 0) (hnc : n ≤ c) (hn : n ≤ maxLen) (hr2 : RI w w.heap.size A2 n2 ns) (hn2 : n2 ≤ maxLen) (hns : ∀ x ∈ ns, I64 x) (ha : I64 a) (hl : I64 l) :
    Calls Try.prog 5 #[.slice A n c, .int .i64 a, .int .i64 l, .slice A2 n2 c2] w fun e w' => e = .returned (.bool true) ∧ Below w.heap.size w w' := by
  cases hs : shortB ls with
  | false => exact poolsSeeks_far H A n c A2 n2 c2 ls a l w hr hn hn2 (.inl hs)
  | true =>
    by_cases h10 : 10 < n2
    · exact poolsSeeks_far H A n c A2 n2 c2 ls a l w hr hn hn2 (.inr h10)
    · have hp := short_ask hs hr hnil hnc
      have hq : NAsk w A2 n2 ns := ⟨hr2, by omega, hns⟩
      exact poolsSeeks_near H A n c A2 n2 c2 ls ns a l w hp hq hs ha hl _ _ rfl

end Go.Proofs.Ytkhnlbkghjjdnaa
