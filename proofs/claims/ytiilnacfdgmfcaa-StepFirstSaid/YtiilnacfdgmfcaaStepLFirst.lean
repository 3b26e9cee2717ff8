/- The statement StepFirst, as a walk over the contracts: of any profile, time, length and number the call returns true. -/
import Derived.Test.YtiilnacfdgmfcaaStepAwake
import Derived.Test.YtiilnacfdgmfcaaStepLaws
namespace Go.Proofs.Ytiilnacfdgmfcaa
open Go.RowKit

set_option maxRecDepth 100000 in
theorem first_long (H : StepOk) (A : Option Addr) (n c : Nat) (a l k : Int) (w : World) (hn : n ≤ maxLen) (hl : 200 < n) :
    Calls Try.prog 4 #[.slice A n c, .int .i64 a, .int .i64 l, .int .i64 k] w fun e w' => e = .returned (.bool true) ∧ Below w.heap.size w w' := by
  unfold maxLen at hn
  go_enter Try.func4, Try.ntmps4
  go_wp2_with fail
  refine (stepAwake_any H _).mono ?_
  rintro e w1 ⟨rfl, hb1⟩
  go_wp2
  go_ret
  exact ⟨rfl, hb1⟩
set_option maxRecDepth 100000 in
set_option maxHeartbeats 8000000 in
theorem first_short (H : StepOk) (A : Option Addr) (n c : Nat) (p : List (Int × Int)) (a l k : Int) (w : World) (hr : RS w w.heap.size A n p) (hnil : A = none → c = 0) (hnc : n ≤ c) (hn2 : n ≤ 200) (ha : I64 a) (hl : I64 l) (hk : I64 k) (t : Int) (b : Bool) (ht : firstR p a l k = (t, b)) :
    Calls Try.prog 4 #[.slice A n c, .int .i64 a, .int .i64 l, .int .i64 k] w fun e w' => e = .returned (.bool true) ∧ Below w.heap.size w w' := by
  have FP := Lib.hid hr
  have HN := Lib.hid hnil
  have HC := Lib.hid hnc
  have HL : Hid (n ≤ 2000) := Lib.hid (by omega)
  have HB := Lib.hid (Below.refl w.heap.size w)
  have H_a := Lib.hid ha
  have ha1 := ha.1
  have ha2 := ha.2
  have H_l := Lib.hid hl
  have hl1 := hl.1
  have hl2 := hl.2
  have H_k := Lib.hid hk
  have hk1 := hk.1
  have hk2 := hk.2
  have HT := Lib.hid ht
  clear hr hnil hnc ha hl hk ht
  go_enter Try.func4, Try.ntmps4
  go_wp2_with fail
  refine (stepAwake_any H _).mono ?_
  rintro e w1 ⟨rfl, hb1⟩
  have hBz := HB.out.size
  have HB2 := Lib.hid (HB.out.trans (hb1.mono hBz))
  clear HB hBz
  have HB := HB2
  clear HB2
  have FP2 := Lib.hid (FP.out.next hb1)
  clear FP
  have FP := FP2
  clear FP2
  clear hb1
  go_wp2_with fail
  refine (calls_first (H.first _ _ _ _ a l k _ FP.out HL.out H_a.out H_l.out H_k.out) HT.out).mono ?_
  rintro e w2 ⟨rfl, hb2⟩
  have hBz := HB.out.size
  have HB2 := Lib.hid (HB.out.trans (hb2.mono hBz))
  clear HB hBz
  have HB := HB2
  clear HB2
  have FP2 := Lib.hid (FP.out.next hb2)
  clear FP
  have FP := FP2
  clear FP2
  clear hb2
  go_wp2_with fail
  refine (calls_first (s_first FP.out HL.out H_a.out H_l.out) HT.out).mono ?_
  rintro e w3 ⟨rfl, hb3⟩
  have hBz := HB.out.size
  have HB2 := Lib.hid (HB.out.trans (hb3.mono hBz))
  clear HB hBz
  have HB := HB2
  clear HB2
  have FP2 := Lib.hid (FP.out.next hb3)
  clear FP
  have FP := FP2
  clear FP2
  clear hb3
  go_wp2
  go_ret
  exact ⟨rfl, HB.out⟩

theorem stepFirst_walk (H : StepOk) (A : Option Addr) (n c : Nat) (p : List (Int × Int)) (a l k : Int) (w : World) (hr : RS w w.heap.size A n p) (hnil : A = none → c = 0) (hnc : n ≤ c) (hn : n ≤ maxLen) (ha : I64 a) (hl : I64 l) (hk : I64 k) :
    Calls Try.prog 4 #[.slice A n c, .int .i64 a, .int .i64 l, .int .i64 k] w fun e w' => e = .returned (.bool true) ∧ Below w.heap.size w w' := by
  by_cases h : 200 < n
  · exact first_long H A n c a l k w hn h
  · exact first_short H A n c p a l k w hr hnil hnc (by omega) ha hl hk _ _ rfl

end Go.Proofs.Ytiilnacfdgmfcaa
