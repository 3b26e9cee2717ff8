/- The statement StepTwice, as a walk over the contracts: of any profile, times and numbers the call returns true. -/
import Derived.Test.YtiilnacfdgmfcaaStepAwake
import Derived.Test.YtiilnacfdgmfcaaStepLaws
namespace Go.Proofs.Ytiilnacfdgmfcaa
open Go.RowKit

/-- a result that is read alone -/
def SOne (l : List (Int × Int)) (w : World) (e : Ending) (w' : World) : Prop :=
  (∃ A c, e = .returned (.slice A l.length c) ∧ RS w' w'.heap.size A l.length l ∧ (A = none → c = 0) ∧ l.length ≤ c) ∧ Below w.heap.size w w'
theorem lawTake_any (H : StepOk) (A : Option Addr) (n c : Nat) (p : List (Int × Int)) (a b k : Int) (q : List (Int × Int)) (er : Int) (w : World) (hr : RS w w.heap.size A n p) (hnil : A = none → c = 0) (hnc : n ≤ c) (hl : n ≤ 2000) (ha : I64 a) (hb : I64 b) (hk : I64 k) (ht : takeR p a b k = (q, er)) :
    Calls Try.prog 27 #[.slice A n c, .int .i64 a, .int .i64 b, .int .i64 k] w (SOne q w) := by
  have FP := Lib.hid hr
  have HN := Lib.hid hnil
  have HC := Lib.hid hnc
  have HL := Lib.hid hl
  have H_a := Lib.hid ha
  have H_b := Lib.hid hb
  have H_k := Lib.hid hk
  have HT := Lib.hid ht
  clear hr hnil hnc hl ha hb hk ht
  go_enter Try.func27, Try.ntmps27
  go_wp2_with fail
  refine (calls_spost (H.take _ _ _ _ a b k _ FP.out HN.out HC.out HL.out H_a.out H_b.out H_k.out) HT.out).mono ?_
  rintro e w1 ⟨⟨A1, c1, rfl, hr1, hnil1, hc1⟩, hb1⟩
  have F1 := Lib.hid hr1
  clear hr1
  go_wp2
  go_ret
  exact ⟨⟨A1, c1, rfl, F1.out, hnil1, hc1⟩, hb1⟩

set_option maxRecDepth 100000 in
theorem twice_long (H : StepOk) (A : Option Addr) (n c : Nat) (a m b k j : Int) (w : World) (hn : n ≤ maxLen) (hl : 200 < n) :
    Calls Try.prog 7 #[.slice A n c, .int .i64 a, .int .i64 m, .int .i64 b, .int .i64 k, .int .i64 j] w fun e w' => e = .returned (.bool true) ∧ Below w.heap.size w w' := by
  unfold maxLen at hn
  go_enter Try.func7, Try.ntmps7
  go_wp2_with fail
  refine (stepAwake_any H _).mono ?_
  rintro e w1 ⟨rfl, hb1⟩
  go_wp2
  go_ret
  exact ⟨rfl, hb1⟩
set_option maxRecDepth 100000 in
set_option maxHeartbeats 8000000 in
theorem twice_k (H : StepOk) (A : Option Addr) (n c : Nat) (p : List (Int × Int)) (a m b k j : Int) (w : World) (hr : RS w w.heap.size A n p) (hnil : A = none → c = 0) (hnc : n ≤ c) (hn2 : n ≤ 200) (ha : I64 a) (hm : I64 m) (hb : I64 b) (hk : I64 k) (hj : I64 j) (hk0 : k < 0) :
    Calls Try.prog 7 #[.slice A n c, .int .i64 a, .int .i64 m, .int .i64 b, .int .i64 k, .int .i64 j] w fun e w' => e = .returned (.bool true) ∧ Below w.heap.size w w' := by
  have FP := Lib.hid hr
  have HN := Lib.hid hnil
  have HC := Lib.hid hnc
  have HL : Hid (n ≤ 2000) := Lib.hid (by omega)
  have HB := Lib.hid (Below.refl w.heap.size w)
  have H_a := Lib.hid ha
  have ha1 := ha.1
  have ha2 := ha.2
  have H_m := Lib.hid hm
  have hm1 := hm.1
  have hm2 := hm.2
  have H_b := Lib.hid hb
  have hb1 := hb.1
  have hb2 := hb.2
  have H_k := Lib.hid hk
  have hk1 := hk.1
  have hk2 := hk.2
  have H_j := Lib.hid hj
  have hj1 := hj.1
  have hj2 := hj.2
  clear hr hnil hnc ha hm hb hk hj 
  go_enter Try.func7, Try.ntmps7
  go_wp2_with fail
  refine (stepAwake_any H _).mono ?_
  rintro e w1 ⟨rfl, hb1⟩
  have hBz := HB.out.size
  have HB2 := Lib.hid (HB.out.trans (hb1.mono hBz))
  clear HB hBz
  have HB := HB2
  clear HB2
  have FP2 := Lib.hid (FP.out.next hb1)
  clear FP
  have FP := FP2
  clear FP2
  clear hb1
  go_wp2
  go_ret
  exact ⟨rfl, HB.out⟩

set_option maxRecDepth 100000 in
set_option maxHeartbeats 8000000 in
theorem twice_j (H : StepOk) (A : Option Addr) (n c : Nat) (p : List (Int × Int)) (a m b k j : Int) (w : World) (hr : RS w w.heap.size A n p) (hnil : A = none → c = 0) (hnc : n ≤ c) (hn2 : n ≤ 200) (ha : I64 a) (hm : I64 m) (hb : I64 b) (hk : I64 k) (hj : I64 j) (hk0 : ¬ k < 0) (hj0 : j < 0) :
    Calls Try.prog 7 #[.slice A n c, .int .i64 a, .int .i64 m, .int .i64 b, .int .i64 k, .int .i64 j] w fun e w' => e = .returned (.bool true) ∧ Below w.heap.size w w' := by
  have FP := Lib.hid hr
  have HN := Lib.hid hnil
  have HC := Lib.hid hnc
  have HL : Hid (n ≤ 2000) := Lib.hid (by omega)
  have HB := Lib.hid (Below.refl w.heap.size w)
  have H_a := Lib.hid ha
  have ha1 := ha.1
  have ha2 := ha.2
  have H_m := Lib.hid hm
  have hm1 := hm.1
  have hm2 := hm.2
  have H_b := Lib.hid hb
  have hb1 := hb.1
  have hb2 := hb.2
  have H_k := Lib.hid hk
  have hk1 := hk.1
  have hk2 := hk.2
  have H_j := Lib.hid hj
  have hj1 := hj.1
  have hj2 := hj.2
  clear hr hnil hnc ha hm hb hk hj 
  go_enter Try.func7, Try.ntmps7
  go_wp2_with fail
  refine (stepAwake_any H _).mono ?_
  rintro e w1 ⟨rfl, hb1⟩
  have hBz := HB.out.size
  have HB2 := Lib.hid (HB.out.trans (hb1.mono hBz))
  clear HB hBz
  have HB := HB2
  clear HB2
  have FP2 := Lib.hid (FP.out.next hb1)
  clear FP
  have FP := FP2
  clear FP2
  clear hb1
  go_wp2
  go_ret
  exact ⟨rfl, HB.out⟩

set_option maxRecDepth 100000 in
set_option maxHeartbeats 8000000 in
theorem twice_kb (H : StepOk) (A : Option Addr) (n c : Nat) (p : List (Int × Int)) (a m b k j : Int) (w : World) (hr : RS w w.heap.size A n p) (hnil : A = none → c = 0) (hnc : n ≤ c) (hn2 : n ≤ 200) (ha : I64 a) (hm : I64 m) (hb : I64 b) (hk : I64 k) (hj : I64 j) (hk0 : ¬ k < 0) (hj0 : ¬ j < 0) (hk9 : 1048576 < k) :
    Calls Try.prog 7 #[.slice A n c, .int .i64 a, .int .i64 m, .int .i64 b, .int .i64 k, .int .i64 j] w fun e w' => e = .returned (.bool true) ∧ Below w.heap.size w w' := by
  have FP := Lib.hid hr
  have HN := Lib.hid hnil
  have HC := Lib.hid hnc
  have HL : Hid (n ≤ 2000) := Lib.hid (by omega)
  have HB := Lib.hid (Below.refl w.heap.size w)
  have H_a := Lib.hid ha
  have ha1 := ha.1
  have ha2 := ha.2
  have H_m := Lib.hid hm
  have hm1 := hm.1
  have hm2 := hm.2
  have H_b := Lib.hid hb
  have hb1 := hb.1
  have hb2 := hb.2
  have H_k := Lib.hid hk
  have hk1 := hk.1
  have hk2 := hk.2
  have H_j := Lib.hid hj
  have hj1 := hj.1
  have hj2 := hj.2
  clear hr hnil hnc ha hm hb hk hj 
  go_enter Try.func7, Try.ntmps7
  go_wp2_with fail
  refine (stepAwake_any H _).mono ?_
  rintro e w1 ⟨rfl, hb1⟩
  have hBz := HB.out.size
  have HB2 := Lib.hid (HB.out.trans (hb1.mono hBz))
  clear HB hBz
  have HB := HB2
  clear HB2
  have FP2 := Lib.hid (FP.out.next hb1)
  clear FP
  have FP := FP2
  clear FP2
  clear hb1
  go_wp2
  go_ret
  exact ⟨rfl, HB.out⟩

set_option maxRecDepth 100000 in
set_option maxHeartbeats 8000000 in
theorem twice_jb (H : StepOk) (A : Option Addr) (n c : Nat) (p : List (Int × Int)) (a m b k j : Int) (w : World) (hr : RS w w.heap.size A n p) (hnil : A = none → c = 0) (hnc : n ≤ c) (hn2 : n ≤ 200) (ha : I64 a) (hm : I64 m) (hb : I64 b) (hk : I64 k) (hj : I64 j) (hk0 : ¬ k < 0) (hj0 : ¬ j < 0) (hk9 : ¬ 1048576 < k) (hj9 : 1048576 - k < j) :
    Calls Try.prog 7 #[.slice A n c, .int .i64 a, .int .i64 m, .int .i64 b, .int .i64 k, .int .i64 j] w fun e w' => e = .returned (.bool true) ∧ Below w.heap.size w w' := by
  have FP := Lib.hid hr
  have HN := Lib.hid hnil
  have HC := Lib.hid hnc
  have HL : Hid (n ≤ 2000) := Lib.hid (by omega)
  have HB := Lib.hid (Below.refl w.heap.size w)
  have H_a := Lib.hid ha
  have ha1 := ha.1
  have ha2 := ha.2
  have H_m := Lib.hid hm
  have hm1 := hm.1
  have hm2 := hm.2
  have H_b := Lib.hid hb
  have hb1 := hb.1
  have hb2 := hb.2
  have H_k := Lib.hid hk
  have hk1 := hk.1
  have hk2 := hk.2
  have H_j := Lib.hid hj
  have hj1 := hj.1
  have hj2 := hj.2
  clear hr hnil hnc ha hm hb hk hj 
  go_enter Try.func7, Try.ntmps7
  go_wp2_with fail
  refine (stepAwake_any H _).mono ?_
  rintro e w1 ⟨rfl, hb1⟩
  have hBz := HB.out.size
  have HB2 := Lib.hid (HB.out.trans (hb1.mono hBz))
  clear HB hBz
  have HB := HB2
  clear HB2
  have FP2 := Lib.hid (FP.out.next hb1)
  clear FP
  have FP := FP2
  clear FP2
  clear hb1
  go_wp2
  go_ret
  exact ⟨rfl, HB.out⟩

set_option maxRecDepth 100000 in
set_option maxHeartbeats 8000000 in
theorem twice_G_left (H : StepOk) (A : Option Addr) (n c : Nat) (p : List (Int × Int)) (a m b k j : Int) (w : World) (hr : RS w w.heap.size A n p) (hnil : A = none → c = 0) (hnc : n ≤ c) (hn2 : n ≤ 200) (ha : I64 a) (hm : I64 m) (hb : I64 b) (hk : I64 k) (hj : I64 j) (hk0 : ¬ k < 0) (hj0 : ¬ j < 0) (hk9 : ¬ 1048576 < k) (hj9 : ¬ 1048576 - k < j) (q r : List (Int × Int)) (ht1 : takeR p a b k = (q, 0)) (ht2 : takeR q a b j = (r, 0)) (ht3 : takeR p a b (k + j) = (r, 0)) (hl1 : q.length ≤ 2000) (hl2 : r.length ≤ 2000) (hlm : m ≤ a) :
    Calls Try.prog 7 #[.slice A n c, .int .i64 a, .int .i64 m, .int .i64 b, .int .i64 k, .int .i64 j] w fun e w' => e = .returned (.bool true) ∧ Below w.heap.size w w' := by
  have FP := Lib.hid hr
  have HN := Lib.hid hnil
  have HC := Lib.hid hnc
  have HL : Hid (n ≤ 2000) := Lib.hid (by omega)
  have HB := Lib.hid (Below.refl w.heap.size w)
  have H_a := Lib.hid ha
  have ha1 := ha.1
  have ha2 := ha.2
  have H_m := Lib.hid hm
  have hm1 := hm.1
  have hm2 := hm.2
  have H_b := Lib.hid hb
  have hb1 := hb.1
  have hb2 := hb.2
  have H_k := Lib.hid hk
  have hk1 := hk.1
  have hk2 := hk.2
  have H_j := Lib.hid hj
  have hj1 := hj.1
  have hj2 := hj.2
  have HT1 := Lib.hid ht1
  have HT2 := Lib.hid ht2
  have HT3 := Lib.hid ht3
  have HL1 := Lib.hid hl1
  have HL2 := Lib.hid hl2
  clear hr hnil hnc ha hm hb hk hj ht1 ht2 ht3 hl1 hl2
  have HKJ : Hid (I64 (k + j)) := Lib.hid ⟨by omega, by omega⟩
  go_enter Try.func7, Try.ntmps7
  go_wp2_with fail
  refine (stepAwake_any H _).mono ?_
  rintro e w1 ⟨rfl, hb1⟩
  have hBz := HB.out.size
  have HB2 := Lib.hid (HB.out.trans (hb1.mono hBz))
  clear HB hBz
  have HB := HB2
  clear HB2
  have FP2 := Lib.hid (FP.out.next hb1)
  clear FP
  have FP := FP2
  clear FP2
  clear hb1
  go_wp2_with fail
  refine (calls_spost (H.take _ _ _ _ a b k _ FP.out HN.out HC.out HL.out H_a.out H_b.out H_k.out) HT1.out).mono ?_
  rintro e w2 ⟨⟨A2, c2, rfl, hr2, hnil2, hc2⟩, hb2⟩
  have hBz := HB.out.size
  have HB2 := Lib.hid (HB.out.trans (hb2.mono hBz))
  clear HB hBz
  have HB := HB2
  clear HB2
  have FP2 := Lib.hid (FP.out.next hb2)
  clear FP
  have FP := FP2
  clear FP2
  clear hb2
  have F1 := Lib.hid hr2
  have F1c := Lib.hid hc2
  have F1z := Lib.hid hnil2
  clear hr2 hc2 hnil2
  go_wp2_with fail
  refine (calls_spost (H.take _ _ _ _ a b j _ F1.out F1z.out F1c.out HL1.out H_a.out H_b.out H_j.out) HT2.out).mono ?_
  rintro e w3 ⟨⟨A3, c3, rfl, hr3, hnil3, hc3⟩, hb3⟩
  have hBz := HB.out.size
  have HB2 := Lib.hid (HB.out.trans (hb3.mono hBz))
  clear HB hBz
  have HB := HB2
  clear HB2
  have FP2 := Lib.hid (FP.out.next hb3)
  clear FP
  have FP := FP2
  clear FP2
  have F12 := Lib.hid (F1.out.next hb3)
  clear F1
  have F1 := F12
  clear F12
  clear hb3
  have F2 := Lib.hid hr3
  have F2c := Lib.hid hc3
  have F2z := Lib.hid hnil3
  clear hr3 hc3 hnil3
  go_wp2_with fail
  refine (calls_spost (H.take _ _ _ _ a b (k + j) _ FP.out HN.out HC.out HL.out H_a.out H_b.out HKJ.out) HT3.out).mono ?_
  rintro e w4 ⟨⟨A4, c4, rfl, hr4, hnil4, hc4⟩, hb4⟩
  have hBz := HB.out.size
  have HB2 := Lib.hid (HB.out.trans (hb4.mono hBz))
  clear HB hBz
  have HB := HB2
  clear HB2
  have FP2 := Lib.hid (FP.out.next hb4)
  clear FP
  have FP := FP2
  clear FP2
  have F12 := Lib.hid (F1.out.next hb4)
  clear F1
  have F1 := F12
  clear F12
  have F22 := Lib.hid (F2.out.next hb4)
  clear F2
  have F2 := F22
  clear F22
  clear hb4
  have F3 := Lib.hid hr4
  have F3c := Lib.hid hc4
  have F3z := Lib.hid hnil4
  clear hr4 hc4 hnil4
  go_wp2_with fail
  refine (s_same F2.out F3.out HL2.out HL2.out rfl).mono ?_
  rintro e w5 ⟨rfl, hb5⟩
  have hBz := HB.out.size
  have HB2 := Lib.hid (HB.out.trans (hb5.mono hBz))
  clear HB hBz
  have HB := HB2
  clear HB2
  have FP2 := Lib.hid (FP.out.next hb5)
  clear FP
  have FP := FP2
  clear FP2
  have F12 := Lib.hid (F1.out.next hb5)
  clear F1
  have F1 := F12
  clear F12
  have F22 := Lib.hid (F2.out.next hb5)
  clear F2
  have F2 := F22
  clear F22
  have F32 := Lib.hid (F3.out.next hb5)
  clear F3
  have F3 := F32
  clear F32
  clear hb5
  go_wp2
  go_ret
  exact ⟨rfl, HB.out⟩

set_option maxRecDepth 100000 in
set_option maxHeartbeats 8000000 in
theorem twice_G_right (H : StepOk) (A : Option Addr) (n c : Nat) (p : List (Int × Int)) (a m b k j : Int) (w : World) (hr : RS w w.heap.size A n p) (hnil : A = none → c = 0) (hnc : n ≤ c) (hn2 : n ≤ 200) (ha : I64 a) (hm : I64 m) (hb : I64 b) (hk : I64 k) (hj : I64 j) (hk0 : ¬ k < 0) (hj0 : ¬ j < 0) (hk9 : ¬ 1048576 < k) (hj9 : ¬ 1048576 - k < j) (q r : List (Int × Int)) (ht1 : takeR p a b k = (q, 0)) (ht2 : takeR q a b j = (r, 0)) (ht3 : takeR p a b (k + j) = (r, 0)) (hl1 : q.length ≤ 2000) (hl2 : r.length ≤ 2000) (hlm : ¬ m ≤ a) (hmb : b ≤ m) :
    Calls Try.prog 7 #[.slice A n c, .int .i64 a, .int .i64 m, .int .i64 b, .int .i64 k, .int .i64 j] w fun e w' => e = .returned (.bool true) ∧ Below w.heap.size w w' := by
  have FP := Lib.hid hr
  have HN := Lib.hid hnil
  have HC := Lib.hid hnc
  have HL : Hid (n ≤ 2000) := Lib.hid (by omega)
  have HB := Lib.hid (Below.refl w.heap.size w)
  have H_a := Lib.hid ha
  have ha1 := ha.1
  have ha2 := ha.2
  have H_m := Lib.hid hm
  have hm1 := hm.1
  have hm2 := hm.2
  have H_b := Lib.hid hb
  have hb1 := hb.1
  have hb2 := hb.2
  have H_k := Lib.hid hk
  have hk1 := hk.1
  have hk2 := hk.2
  have H_j := Lib.hid hj
  have hj1 := hj.1
  have hj2 := hj.2
  have HT1 := Lib.hid ht1
  have HT2 := Lib.hid ht2
  have HT3 := Lib.hid ht3
  have HL1 := Lib.hid hl1
  have HL2 := Lib.hid hl2
  clear hr hnil hnc ha hm hb hk hj ht1 ht2 ht3 hl1 hl2
  have HKJ : Hid (I64 (k + j)) := Lib.hid ⟨by omega, by omega⟩
  go_enter Try.func7, Try.ntmps7
  go_wp2_with fail
  refine (stepAwake_any H _).mono ?_
  rintro e w1 ⟨rfl, hb1⟩
  have hBz := HB.out.size
  have HB2 := Lib.hid (HB.out.trans (hb1.mono hBz))
  clear HB hBz
  have HB := HB2
  clear HB2
  have FP2 := Lib.hid (FP.out.next hb1)
  clear FP
  have FP := FP2
  clear FP2
  clear hb1
  go_wp2_with fail
  refine (calls_spost (H.take _ _ _ _ a b k _ FP.out HN.out HC.out HL.out H_a.out H_b.out H_k.out) HT1.out).mono ?_
  rintro e w2 ⟨⟨A2, c2, rfl, hr2, hnil2, hc2⟩, hb2⟩
  have hBz := HB.out.size
  have HB2 := Lib.hid (HB.out.trans (hb2.mono hBz))
  clear HB hBz
  have HB := HB2
  clear HB2
  have FP2 := Lib.hid (FP.out.next hb2)
  clear FP
  have FP := FP2
  clear FP2
  clear hb2
  have F1 := Lib.hid hr2
  have F1c := Lib.hid hc2
  have F1z := Lib.hid hnil2
  clear hr2 hc2 hnil2
  go_wp2_with fail
  refine (calls_spost (H.take _ _ _ _ a b j _ F1.out F1z.out F1c.out HL1.out H_a.out H_b.out H_j.out) HT2.out).mono ?_
  rintro e w3 ⟨⟨A3, c3, rfl, hr3, hnil3, hc3⟩, hb3⟩
  have hBz := HB.out.size
  have HB2 := Lib.hid (HB.out.trans (hb3.mono hBz))
  clear HB hBz
  have HB := HB2
  clear HB2
  have FP2 := Lib.hid (FP.out.next hb3)
  clear FP
  have FP := FP2
  clear FP2
  have F12 := Lib.hid (F1.out.next hb3)
  clear F1
  have F1 := F12
  clear F12
  clear hb3
  have F2 := Lib.hid hr3
  have F2c := Lib.hid hc3
  have F2z := Lib.hid hnil3
  clear hr3 hc3 hnil3
  go_wp2_with fail
  refine (calls_spost (H.take _ _ _ _ a b (k + j) _ FP.out HN.out HC.out HL.out H_a.out H_b.out HKJ.out) HT3.out).mono ?_
  rintro e w4 ⟨⟨A4, c4, rfl, hr4, hnil4, hc4⟩, hb4⟩
  have hBz := HB.out.size
  have HB2 := Lib.hid (HB.out.trans (hb4.mono hBz))
  clear HB hBz
  have HB := HB2
  clear HB2
  have FP2 := Lib.hid (FP.out.next hb4)
  clear FP
  have FP := FP2
  clear FP2
  have F12 := Lib.hid (F1.out.next hb4)
  clear F1
  have F1 := F12
  clear F12
  have F22 := Lib.hid (F2.out.next hb4)
  clear F2
  have F2 := F22
  clear F22
  clear hb4
  have F3 := Lib.hid hr4
  have F3c := Lib.hid hc4
  have F3z := Lib.hid hnil4
  clear hr4 hc4 hnil4
  go_wp2_with fail
  refine (s_same F2.out F3.out HL2.out HL2.out rfl).mono ?_
  rintro e w5 ⟨rfl, hb5⟩
  have hBz := HB.out.size
  have HB2 := Lib.hid (HB.out.trans (hb5.mono hBz))
  clear HB hBz
  have HB := HB2
  clear HB2
  have FP2 := Lib.hid (FP.out.next hb5)
  clear FP
  have FP := FP2
  clear FP2
  have F12 := Lib.hid (F1.out.next hb5)
  clear F1
  have F1 := F12
  clear F12
  have F22 := Lib.hid (F2.out.next hb5)
  clear F2
  have F2 := F22
  clear F22
  have F32 := Lib.hid (F3.out.next hb5)
  clear F3
  have F3 := F32
  clear F32
  clear hb5
  go_wp2
  go_ret
  exact ⟨rfl, HB.out⟩

set_option maxRecDepth 100000 in
set_option maxHeartbeats 8000000 in
theorem twice_N1_left (H : StepOk) (A : Option Addr) (n c : Nat) (p : List (Int × Int)) (a m b k j : Int) (w : World) (hr : RS w w.heap.size A n p) (hnil : A = none → c = 0) (hnc : n ≤ c) (hn2 : n ≤ 200) (ha : I64 a) (hm : I64 m) (hb : I64 b) (hk : I64 k) (hj : I64 j) (hk0 : ¬ k < 0) (hj0 : ¬ j < 0) (hk9 : ¬ 1048576 < k) (hj9 : ¬ 1048576 - k < j) (e1 e2 e3 : Int) (q r s : List (Int × Int)) (ht1 : takeR p a b k = (q, e1)) (ht2 : takeR q a b j = (r, e2)) (ht3 : takeR p a b (k + j) = (s, e3)) (he1 : (e1 == 0) = false) (he3 : (e3 == 0) = false) (hl1 : q.length ≤ 2000) (hlm : m ≤ a) :
    Calls Try.prog 7 #[.slice A n c, .int .i64 a, .int .i64 m, .int .i64 b, .int .i64 k, .int .i64 j] w fun e w' => e = .returned (.bool true) ∧ Below w.heap.size w w' := by
  have FP := Lib.hid hr
  have HN := Lib.hid hnil
  have HC := Lib.hid hnc
  have HL : Hid (n ≤ 2000) := Lib.hid (by omega)
  have HB := Lib.hid (Below.refl w.heap.size w)
  have H_a := Lib.hid ha
  have ha1 := ha.1
  have ha2 := ha.2
  have H_m := Lib.hid hm
  have hm1 := hm.1
  have hm2 := hm.2
  have H_b := Lib.hid hb
  have hb1 := hb.1
  have hb2 := hb.2
  have H_k := Lib.hid hk
  have hk1 := hk.1
  have hk2 := hk.2
  have H_j := Lib.hid hj
  have hj1 := hj.1
  have hj2 := hj.2
  have HT1 := Lib.hid ht1
  have HT2 := Lib.hid ht2
  have HT3 := Lib.hid ht3
  have HL1 := Lib.hid hl1
  clear hr hnil hnc ha hm hb hk hj ht1 ht2 ht3 hl1
  have HKJ : Hid (I64 (k + j)) := Lib.hid ⟨by omega, by omega⟩
  go_enter Try.func7, Try.ntmps7
  go_wp2_with fail
  refine (stepAwake_any H _).mono ?_
  rintro e w1 ⟨rfl, hb1⟩
  have hBz := HB.out.size
  have HB2 := Lib.hid (HB.out.trans (hb1.mono hBz))
  clear HB hBz
  have HB := HB2
  clear HB2
  have FP2 := Lib.hid (FP.out.next hb1)
  clear FP
  have FP := FP2
  clear FP2
  clear hb1
  go_wp2_with fail
  refine (calls_spost (H.take _ _ _ _ a b k _ FP.out HN.out HC.out HL.out H_a.out H_b.out H_k.out) HT1.out).mono ?_
  rintro e w2 ⟨⟨A2, c2, rfl, hr2, hnil2, hc2⟩, hb2⟩
  have hBz := HB.out.size
  have HB2 := Lib.hid (HB.out.trans (hb2.mono hBz))
  clear HB hBz
  have HB := HB2
  clear HB2
  have FP2 := Lib.hid (FP.out.next hb2)
  clear FP
  have FP := FP2
  clear FP2
  clear hb2
  have F1 := Lib.hid hr2
  have F1c := Lib.hid hc2
  have F1z := Lib.hid hnil2
  clear hr2 hc2 hnil2
  go_wp2_with fail
  refine (calls_spost (H.take _ _ _ _ a b j _ F1.out F1z.out F1c.out HL1.out H_a.out H_b.out H_j.out) HT2.out).mono ?_
  rintro e w3 ⟨⟨A3, c3, rfl, hr3, hnil3, hc3⟩, hb3⟩
  have hBz := HB.out.size
  have HB2 := Lib.hid (HB.out.trans (hb3.mono hBz))
  clear HB hBz
  have HB := HB2
  clear HB2
  have FP2 := Lib.hid (FP.out.next hb3)
  clear FP
  have FP := FP2
  clear FP2
  have F12 := Lib.hid (F1.out.next hb3)
  clear F1
  have F1 := F12
  clear F12
  clear hb3
  have F2 := Lib.hid hr3
  have F2c := Lib.hid hc3
  have F2z := Lib.hid hnil3
  clear hr3 hc3 hnil3
  go_wp2_with fail
  refine (calls_spost (H.take _ _ _ _ a b (k + j) _ FP.out HN.out HC.out HL.out H_a.out H_b.out HKJ.out) HT3.out).mono ?_
  rintro e w4 ⟨⟨A4, c4, rfl, hr4, hnil4, hc4⟩, hb4⟩
  have hBz := HB.out.size
  have HB2 := Lib.hid (HB.out.trans (hb4.mono hBz))
  clear HB hBz
  have HB := HB2
  clear HB2
  have FP2 := Lib.hid (FP.out.next hb4)
  clear FP
  have FP := FP2
  clear FP2
  have F12 := Lib.hid (F1.out.next hb4)
  clear F1
  have F1 := F12
  clear F12
  have F22 := Lib.hid (F2.out.next hb4)
  clear F2
  have F2 := F22
  clear F22
  clear hb4
  have F3 := Lib.hid hr4
  have F3c := Lib.hid hc4
  have F3z := Lib.hid hnil4
  clear hr4 hc4 hnil4
  go_wp2
  go_ret
  exact ⟨rfl, HB.out⟩

set_option maxRecDepth 100000 in
set_option maxHeartbeats 8000000 in
theorem twice_N1_right (H : StepOk) (A : Option Addr) (n c : Nat) (p : List (Int × Int)) (a m b k j : Int) (w : World) (hr : RS w w.heap.size A n p) (hnil : A = none → c = 0) (hnc : n ≤ c) (hn2 : n ≤ 200) (ha : I64 a) (hm : I64 m) (hb : I64 b) (hk : I64 k) (hj : I64 j) (hk0 : ¬ k < 0) (hj0 : ¬ j < 0) (hk9 : ¬ 1048576 < k) (hj9 : ¬ 1048576 - k < j) (e1 e2 e3 : Int) (q r s : List (Int × Int)) (ht1 : takeR p a b k = (q, e1)) (ht2 : takeR q a b j = (r, e2)) (ht3 : takeR p a b (k + j) = (s, e3)) (he1 : (e1 == 0) = false) (he3 : (e3 == 0) = false) (hl1 : q.length ≤ 2000) (hlm : ¬ m ≤ a) (hmb : b ≤ m) :
    Calls Try.prog 7 #[.slice A n c, .int .i64 a, .int .i64 m, .int .i64 b, .int .i64 k, .int .i64 j] w fun e w' => e = .returned (.bool true) ∧ Below w.heap.size w w' := by
  have FP := Lib.hid hr
  have HN := Lib.hid hnil
  have HC := Lib.hid hnc
  have HL : Hid (n ≤ 2000) := Lib.hid (by omega)
  have HB := Lib.hid (Below.refl w.heap.size w)
  have H_a := Lib.hid ha
  have ha1 := ha.1
  have ha2 := ha.2
  have H_m := Lib.hid hm
  have hm1 := hm.1
  have hm2 := hm.2
  have H_b := Lib.hid hb
  have hb1 := hb.1
  have hb2 := hb.2
  have H_k := Lib.hid hk
  have hk1 := hk.1
  have hk2 := hk.2
  have H_j := Lib.hid hj
  have hj1 := hj.1
  have hj2 := hj.2
  have HT1 := Lib.hid ht1
  have HT2 := Lib.hid ht2
  have HT3 := Lib.hid ht3
  have HL1 := Lib.hid hl1
  clear hr hnil hnc ha hm hb hk hj ht1 ht2 ht3 hl1
  have HKJ : Hid (I64 (k + j)) := Lib.hid ⟨by omega, by omega⟩
  go_enter Try.func7, Try.ntmps7
  go_wp2_with fail
  refine (stepAwake_any H _).mono ?_
  rintro e w1 ⟨rfl, hb1⟩
  have hBz := HB.out.size
  have HB2 := Lib.hid (HB.out.trans (hb1.mono hBz))
  clear HB hBz
  have HB := HB2
  clear HB2
  have FP2 := Lib.hid (FP.out.next hb1)
  clear FP
  have FP := FP2
  clear FP2
  clear hb1
  go_wp2_with fail
  refine (calls_spost (H.take _ _ _ _ a b k _ FP.out HN.out HC.out HL.out H_a.out H_b.out H_k.out) HT1.out).mono ?_
  rintro e w2 ⟨⟨A2, c2, rfl, hr2, hnil2, hc2⟩, hb2⟩
  have hBz := HB.out.size
  have HB2 := Lib.hid (HB.out.trans (hb2.mono hBz))
  clear HB hBz
  have HB := HB2
  clear HB2
  have FP2 := Lib.hid (FP.out.next hb2)
  clear FP
  have FP := FP2
  clear FP2
  clear hb2
  have F1 := Lib.hid hr2
  have F1c := Lib.hid hc2
  have F1z := Lib.hid hnil2
  clear hr2 hc2 hnil2
  go_wp2_with fail
  refine (calls_spost (H.take _ _ _ _ a b j _ F1.out F1z.out F1c.out HL1.out H_a.out H_b.out H_j.out) HT2.out).mono ?_
  rintro e w3 ⟨⟨A3, c3, rfl, hr3, hnil3, hc3⟩, hb3⟩
  have hBz := HB.out.size
  have HB2 := Lib.hid (HB.out.trans (hb3.mono hBz))
  clear HB hBz
  have HB := HB2
  clear HB2
  have FP2 := Lib.hid (FP.out.next hb3)
  clear FP
  have FP := FP2
  clear FP2
  have F12 := Lib.hid (F1.out.next hb3)
  clear F1
  have F1 := F12
  clear F12
  clear hb3
  have F2 := Lib.hid hr3
  have F2c := Lib.hid hc3
  have F2z := Lib.hid hnil3
  clear hr3 hc3 hnil3
  go_wp2_with fail
  refine (calls_spost (H.take _ _ _ _ a b (k + j) _ FP.out HN.out HC.out HL.out H_a.out H_b.out HKJ.out) HT3.out).mono ?_
  rintro e w4 ⟨⟨A4, c4, rfl, hr4, hnil4, hc4⟩, hb4⟩
  have hBz := HB.out.size
  have HB2 := Lib.hid (HB.out.trans (hb4.mono hBz))
  clear HB hBz
  have HB := HB2
  clear HB2
  have FP2 := Lib.hid (FP.out.next hb4)
  clear FP
  have FP := FP2
  clear FP2
  have F12 := Lib.hid (F1.out.next hb4)
  clear F1
  have F1 := F12
  clear F12
  have F22 := Lib.hid (F2.out.next hb4)
  clear F2
  have F2 := F22
  clear F22
  clear hb4
  have F3 := Lib.hid hr4
  have F3c := Lib.hid hc4
  have F3z := Lib.hid hnil4
  clear hr4 hc4 hnil4
  go_wp2
  go_ret
  exact ⟨rfl, HB.out⟩

set_option maxRecDepth 100000 in
set_option maxHeartbeats 8000000 in
theorem twice_N2_left (H : StepOk) (A : Option Addr) (n c : Nat) (p : List (Int × Int)) (a m b k j : Int) (w : World) (hr : RS w w.heap.size A n p) (hnil : A = none → c = 0) (hnc : n ≤ c) (hn2 : n ≤ 200) (ha : I64 a) (hm : I64 m) (hb : I64 b) (hk : I64 k) (hj : I64 j) (hk0 : ¬ k < 0) (hj0 : ¬ j < 0) (hk9 : ¬ 1048576 < k) (hj9 : ¬ 1048576 - k < j) (e2 e3 : Int) (q r s : List (Int × Int)) (ht1 : takeR p a b k = (q, 0)) (ht2 : takeR q a b j = (r, e2)) (ht3 : takeR p a b (k + j) = (s, e3)) (he2 : (e2 == 0) = false) (he3 : (e3 == 0) = false) (hl1 : q.length ≤ 2000) (hlm : m ≤ a) :
    Calls Try.prog 7 #[.slice A n c, .int .i64 a, .int .i64 m, .int .i64 b, .int .i64 k, .int .i64 j] w fun e w' => e = .returned (.bool true) ∧ Below w.heap.size w w' := by
  have FP := Lib.hid hr
  have HN := Lib.hid hnil
  have HC := Lib.hid hnc
  have HL : Hid (n ≤ 2000) := Lib.hid (by omega)
  have HB := Lib.hid (Below.refl w.heap.size w)
  have H_a := Lib.hid ha
  have ha1 := ha.1
  have ha2 := ha.2
  have H_m := Lib.hid hm
  have hm1 := hm.1
  have hm2 := hm.2
  have H_b := Lib.hid hb
  have hb1 := hb.1
  have hb2 := hb.2
  have H_k := Lib.hid hk
  have hk1 := hk.1
  have hk2 := hk.2
  have H_j := Lib.hid hj
  have hj1 := hj.1
  have hj2 := hj.2
  have HT1 := Lib.hid ht1
  have HT2 := Lib.hid ht2
  have HT3 := Lib.hid ht3
  have HL1 := Lib.hid hl1
  clear hr hnil hnc ha hm hb hk hj ht1 ht2 ht3 hl1
  have HKJ : Hid (I64 (k + j)) := Lib.hid ⟨by omega, by omega⟩
  go_enter Try.func7, Try.ntmps7
  go_wp2_with fail
  refine (stepAwake_any H _).mono ?_
  rintro e w1 ⟨rfl, hb1⟩
  have hBz := HB.out.size
  have HB2 := Lib.hid (HB.out.trans (hb1.mono hBz))
  clear HB hBz
  have HB := HB2
  clear HB2
  have FP2 := Lib.hid (FP.out.next hb1)
  clear FP
  have FP := FP2
  clear FP2
  clear hb1
  go_wp2_with fail
  refine (calls_spost (H.take _ _ _ _ a b k _ FP.out HN.out HC.out HL.out H_a.out H_b.out H_k.out) HT1.out).mono ?_
  rintro e w2 ⟨⟨A2, c2, rfl, hr2, hnil2, hc2⟩, hb2⟩
  have hBz := HB.out.size
  have HB2 := Lib.hid (HB.out.trans (hb2.mono hBz))
  clear HB hBz
  have HB := HB2
  clear HB2
  have FP2 := Lib.hid (FP.out.next hb2)
  clear FP
  have FP := FP2
  clear FP2
  clear hb2
  have F1 := Lib.hid hr2
  have F1c := Lib.hid hc2
  have F1z := Lib.hid hnil2
  clear hr2 hc2 hnil2
  go_wp2_with fail
  refine (calls_spost (H.take _ _ _ _ a b j _ F1.out F1z.out F1c.out HL1.out H_a.out H_b.out H_j.out) HT2.out).mono ?_
  rintro e w3 ⟨⟨A3, c3, rfl, hr3, hnil3, hc3⟩, hb3⟩
  have hBz := HB.out.size
  have HB2 := Lib.hid (HB.out.trans (hb3.mono hBz))
  clear HB hBz
  have HB := HB2
  clear HB2
  have FP2 := Lib.hid (FP.out.next hb3)
  clear FP
  have FP := FP2
  clear FP2
  have F12 := Lib.hid (F1.out.next hb3)
  clear F1
  have F1 := F12
  clear F12
  clear hb3
  have F2 := Lib.hid hr3
  have F2c := Lib.hid hc3
  have F2z := Lib.hid hnil3
  clear hr3 hc3 hnil3
  go_wp2_with fail
  refine (calls_spost (H.take _ _ _ _ a b (k + j) _ FP.out HN.out HC.out HL.out H_a.out H_b.out HKJ.out) HT3.out).mono ?_
  rintro e w4 ⟨⟨A4, c4, rfl, hr4, hnil4, hc4⟩, hb4⟩
  have hBz := HB.out.size
  have HB2 := Lib.hid (HB.out.trans (hb4.mono hBz))
  clear HB hBz
  have HB := HB2
  clear HB2
  have FP2 := Lib.hid (FP.out.next hb4)
  clear FP
  have FP := FP2
  clear FP2
  have F12 := Lib.hid (F1.out.next hb4)
  clear F1
  have F1 := F12
  clear F12
  have F22 := Lib.hid (F2.out.next hb4)
  clear F2
  have F2 := F22
  clear F22
  clear hb4
  have F3 := Lib.hid hr4
  have F3c := Lib.hid hc4
  have F3z := Lib.hid hnil4
  clear hr4 hc4 hnil4
  go_wp2
  go_ret
  exact ⟨rfl, HB.out⟩

set_option maxRecDepth 100000 in
set_option maxHeartbeats 8000000 in
theorem twice_N2_right (H : StepOk) (A : Option Addr) (n c : Nat) (p : List (Int × Int)) (a m b k j : Int) (w : World) (hr : RS w w.heap.size A n p) (hnil : A = none → c = 0) (hnc : n ≤ c) (hn2 : n ≤ 200) (ha : I64 a) (hm : I64 m) (hb : I64 b) (hk : I64 k) (hj : I64 j) (hk0 : ¬ k < 0) (hj0 : ¬ j < 0) (hk9 : ¬ 1048576 < k) (hj9 : ¬ 1048576 - k < j) (e2 e3 : Int) (q r s : List (Int × Int)) (ht1 : takeR p a b k = (q, 0)) (ht2 : takeR q a b j = (r, e2)) (ht3 : takeR p a b (k + j) = (s, e3)) (he2 : (e2 == 0) = false) (he3 : (e3 == 0) = false) (hl1 : q.length ≤ 2000) (hlm : ¬ m ≤ a) (hmb : b ≤ m) :
    Calls Try.prog 7 #[.slice A n c, .int .i64 a, .int .i64 m, .int .i64 b, .int .i64 k, .int .i64 j] w fun e w' => e = .returned (.bool true) ∧ Below w.heap.size w w' := by
  have FP := Lib.hid hr
  have HN := Lib.hid hnil
  have HC := Lib.hid hnc
  have HL : Hid (n ≤ 2000) := Lib.hid (by omega)
  have HB := Lib.hid (Below.refl w.heap.size w)
  have H_a := Lib.hid ha
  have ha1 := ha.1
  have ha2 := ha.2
  have H_m := Lib.hid hm
  have hm1 := hm.1
  have hm2 := hm.2
  have H_b := Lib.hid hb
  have hb1 := hb.1
  have hb2 := hb.2
  have H_k := Lib.hid hk
  have hk1 := hk.1
  have hk2 := hk.2
  have H_j := Lib.hid hj
  have hj1 := hj.1
  have hj2 := hj.2
  have HT1 := Lib.hid ht1
  have HT2 := Lib.hid ht2
  have HT3 := Lib.hid ht3
  have HL1 := Lib.hid hl1
  clear hr hnil hnc ha hm hb hk hj ht1 ht2 ht3 hl1
  have HKJ : Hid (I64 (k + j)) := Lib.hid ⟨by omega, by omega⟩
  go_enter Try.func7, Try.ntmps7
  go_wp2_with fail
  refine (stepAwake_any H _).mono ?_
  rintro e w1 ⟨rfl, hb1⟩
  have hBz := HB.out.size
  have HB2 := Lib.hid (HB.out.trans (hb1.mono hBz))
  clear HB hBz
  have HB := HB2
  clear HB2
  have FP2 := Lib.hid (FP.out.next hb1)
  clear FP
  have FP := FP2
  clear FP2
  clear hb1
  go_wp2_with fail
  refine (calls_spost (H.take _ _ _ _ a b k _ FP.out HN.out HC.out HL.out H_a.out H_b.out H_k.out) HT1.out).mono ?_
  rintro e w2 ⟨⟨A2, c2, rfl, hr2, hnil2, hc2⟩, hb2⟩
  have hBz := HB.out.size
  have HB2 := Lib.hid (HB.out.trans (hb2.mono hBz))
  clear HB hBz
  have HB := HB2
  clear HB2
  have FP2 := Lib.hid (FP.out.next hb2)
  clear FP
  have FP := FP2
  clear FP2
  clear hb2
  have F1 := Lib.hid hr2
  have F1c := Lib.hid hc2
  have F1z := Lib.hid hnil2
  clear hr2 hc2 hnil2
  go_wp2_with fail
  refine (calls_spost (H.take _ _ _ _ a b j _ F1.out F1z.out F1c.out HL1.out H_a.out H_b.out H_j.out) HT2.out).mono ?_
  rintro e w3 ⟨⟨A3, c3, rfl, hr3, hnil3, hc3⟩, hb3⟩
  have hBz := HB.out.size
  have HB2 := Lib.hid (HB.out.trans (hb3.mono hBz))
  clear HB hBz
  have HB := HB2
  clear HB2
  have FP2 := Lib.hid (FP.out.next hb3)
  clear FP
  have FP := FP2
  clear FP2
  have F12 := Lib.hid (F1.out.next hb3)
  clear F1
  have F1 := F12
  clear F12
  clear hb3
  have F2 := Lib.hid hr3
  have F2c := Lib.hid hc3
  have F2z := Lib.hid hnil3
  clear hr3 hc3 hnil3
  go_wp2_with fail
  refine (calls_spost (H.take _ _ _ _ a b (k + j) _ FP.out HN.out HC.out HL.out H_a.out H_b.out HKJ.out) HT3.out).mono ?_
  rintro e w4 ⟨⟨A4, c4, rfl, hr4, hnil4, hc4⟩, hb4⟩
  have hBz := HB.out.size
  have HB2 := Lib.hid (HB.out.trans (hb4.mono hBz))
  clear HB hBz
  have HB := HB2
  clear HB2
  have FP2 := Lib.hid (FP.out.next hb4)
  clear FP
  have FP := FP2
  clear FP2
  have F12 := Lib.hid (F1.out.next hb4)
  clear F1
  have F1 := F12
  clear F12
  have F22 := Lib.hid (F2.out.next hb4)
  clear F2
  have F2 := F22
  clear F22
  clear hb4
  have F3 := Lib.hid hr4
  have F3c := Lib.hid hc4
  have F3z := Lib.hid hnil4
  clear hr4 hc4 hnil4
  go_wp2
  go_ret
  exact ⟨rfl, HB.out⟩

set_option maxRecDepth 100000 in
set_option maxHeartbeats 8000000 in
theorem twice_G_in (H : StepOk) (A : Option Addr) (n c : Nat) (p : List (Int × Int)) (a m b k j : Int) (w : World) (hr : RS w w.heap.size A n p) (hnil : A = none → c = 0) (hnc : n ≤ c) (hn2 : n ≤ 200) (ha : I64 a) (hm : I64 m) (hb : I64 b) (hk : I64 k) (hj : I64 j) (hk0 : ¬ k < 0) (hj0 : ¬ j < 0) (hk9 : ¬ 1048576 < k) (hj9 : ¬ 1048576 - k < j) (q r : List (Int × Int)) (ht1 : takeR p a b k = (q, 0)) (ht2 : takeR q a b j = (r, 0)) (ht3 : takeR p a b (k + j) = (r, 0)) (hl1 : q.length ≤ 2000) (hl2 : r.length ≤ 2000) (hlm : ¬ m ≤ a) (hmb : ¬ b ≤ m) (x : List (Int × Int)) (ht4 : takeR p a m k = (x, 0)) (hl4 : x.length ≤ 2000) (ht5 : takeR x m b k = (q, 0)) :
    Calls Try.prog 7 #[.slice A n c, .int .i64 a, .int .i64 m, .int .i64 b, .int .i64 k, .int .i64 j] w fun e w' => e = .returned (.bool true) ∧ Below w.heap.size w w' := by
  have FP := Lib.hid hr
  have HN := Lib.hid hnil
  have HC := Lib.hid hnc
  have HL : Hid (n ≤ 2000) := Lib.hid (by omega)
  have HB := Lib.hid (Below.refl w.heap.size w)
  have H_a := Lib.hid ha
  have ha1 := ha.1
  have ha2 := ha.2
  have H_m := Lib.hid hm
  have hm1 := hm.1
  have hm2 := hm.2
  have H_b := Lib.hid hb
  have hb1 := hb.1
  have hb2 := hb.2
  have H_k := Lib.hid hk
  have hk1 := hk.1
  have hk2 := hk.2
  have H_j := Lib.hid hj
  have hj1 := hj.1
  have hj2 := hj.2
  have HT1 := Lib.hid ht1
  have HT2 := Lib.hid ht2
  have HT3 := Lib.hid ht3
  have HL1 := Lib.hid hl1
  have HL2 := Lib.hid hl2
  have HT4 := Lib.hid ht4
  have HL4 := Lib.hid hl4
  have HT5 := Lib.hid ht5
  clear hr hnil hnc ha hm hb hk hj ht1 ht2 ht3 hl1 hl2 ht4 hl4 ht5
  have HKJ : Hid (I64 (k + j)) := Lib.hid ⟨by omega, by omega⟩
  go_enter Try.func7, Try.ntmps7
  go_wp2_with fail
  refine (stepAwake_any H _).mono ?_
  rintro e w1 ⟨rfl, hb1⟩
  have hBz := HB.out.size
  have HB2 := Lib.hid (HB.out.trans (hb1.mono hBz))
  clear HB hBz
  have HB := HB2
  clear HB2
  have FP2 := Lib.hid (FP.out.next hb1)
  clear FP
  have FP := FP2
  clear FP2
  clear hb1
  go_wp2_with fail
  refine (calls_spost (H.take _ _ _ _ a b k _ FP.out HN.out HC.out HL.out H_a.out H_b.out H_k.out) HT1.out).mono ?_
  rintro e w2 ⟨⟨A2, c2, rfl, hr2, hnil2, hc2⟩, hb2⟩
  have hBz := HB.out.size
  have HB2 := Lib.hid (HB.out.trans (hb2.mono hBz))
  clear HB hBz
  have HB := HB2
  clear HB2
  have FP2 := Lib.hid (FP.out.next hb2)
  clear FP
  have FP := FP2
  clear FP2
  clear hb2
  have F1 := Lib.hid hr2
  have F1c := Lib.hid hc2
  have F1z := Lib.hid hnil2
  clear hr2 hc2 hnil2
  go_wp2_with fail
  refine (calls_spost (H.take _ _ _ _ a b j _ F1.out F1z.out F1c.out HL1.out H_a.out H_b.out H_j.out) HT2.out).mono ?_
  rintro e w3 ⟨⟨A3, c3, rfl, hr3, hnil3, hc3⟩, hb3⟩
  have hBz := HB.out.size
  have HB2 := Lib.hid (HB.out.trans (hb3.mono hBz))
  clear HB hBz
  have HB := HB2
  clear HB2
  have FP2 := Lib.hid (FP.out.next hb3)
  clear FP
  have FP := FP2
  clear FP2
  have F12 := Lib.hid (F1.out.next hb3)
  clear F1
  have F1 := F12
  clear F12
  clear hb3
  have F2 := Lib.hid hr3
  have F2c := Lib.hid hc3
  have F2z := Lib.hid hnil3
  clear hr3 hc3 hnil3
  go_wp2_with fail
  refine (calls_spost (H.take _ _ _ _ a b (k + j) _ FP.out HN.out HC.out HL.out H_a.out H_b.out HKJ.out) HT3.out).mono ?_
  rintro e w4 ⟨⟨A4, c4, rfl, hr4, hnil4, hc4⟩, hb4⟩
  have hBz := HB.out.size
  have HB2 := Lib.hid (HB.out.trans (hb4.mono hBz))
  clear HB hBz
  have HB := HB2
  clear HB2
  have FP2 := Lib.hid (FP.out.next hb4)
  clear FP
  have FP := FP2
  clear FP2
  have F12 := Lib.hid (F1.out.next hb4)
  clear F1
  have F1 := F12
  clear F12
  have F22 := Lib.hid (F2.out.next hb4)
  clear F2
  have F2 := F22
  clear F22
  clear hb4
  have F3 := Lib.hid hr4
  have F3c := Lib.hid hc4
  have F3z := Lib.hid hnil4
  clear hr4 hc4 hnil4
  go_wp2_with fail
  refine (s_same F2.out F3.out HL2.out HL2.out rfl).mono ?_
  rintro e w5 ⟨rfl, hb5⟩
  have hBz := HB.out.size
  have HB2 := Lib.hid (HB.out.trans (hb5.mono hBz))
  clear HB hBz
  have HB := HB2
  clear HB2
  have FP2 := Lib.hid (FP.out.next hb5)
  clear FP
  have FP := FP2
  clear FP2
  have F12 := Lib.hid (F1.out.next hb5)
  clear F1
  have F1 := F12
  clear F12
  have F22 := Lib.hid (F2.out.next hb5)
  clear F2
  have F2 := F22
  clear F22
  have F32 := Lib.hid (F3.out.next hb5)
  clear F3
  have F3 := F32
  clear F32
  clear hb5
  go_wp2_with fail
  refine (calls_spost (H.take _ _ _ _ a m k _ FP.out HN.out HC.out HL.out H_a.out H_m.out H_k.out) HT4.out).mono ?_
  rintro e w6 ⟨⟨A6, c6, rfl, hr6, hnil6, hc6⟩, hb6⟩
  have hBz := HB.out.size
  have HB2 := Lib.hid (HB.out.trans (hb6.mono hBz))
  clear HB hBz
  have HB := HB2
  clear HB2
  have FP2 := Lib.hid (FP.out.next hb6)
  clear FP
  have FP := FP2
  clear FP2
  have F12 := Lib.hid (F1.out.next hb6)
  clear F1
  have F1 := F12
  clear F12
  have F22 := Lib.hid (F2.out.next hb6)
  clear F2
  have F2 := F22
  clear F22
  have F32 := Lib.hid (F3.out.next hb6)
  clear F3
  have F3 := F32
  clear F32
  clear hb6
  have F4 := Lib.hid hr6
  have F4c := Lib.hid hc6
  have F4z := Lib.hid hnil6
  clear hr6 hc6 hnil6
  go_wp2_with fail
  refine (calls_spost (H.take _ _ _ _ m b k _ F4.out F4z.out F4c.out HL4.out H_m.out H_b.out H_k.out) HT5.out).mono ?_
  rintro e w7 ⟨⟨A7, c7, rfl, hr7, hnil7, hc7⟩, hb7⟩
  have hBz := HB.out.size
  have HB2 := Lib.hid (HB.out.trans (hb7.mono hBz))
  clear HB hBz
  have HB := HB2
  clear HB2
  have FP2 := Lib.hid (FP.out.next hb7)
  clear FP
  have FP := FP2
  clear FP2
  have F12 := Lib.hid (F1.out.next hb7)
  clear F1
  have F1 := F12
  clear F12
  have F22 := Lib.hid (F2.out.next hb7)
  clear F2
  have F2 := F22
  clear F22
  have F32 := Lib.hid (F3.out.next hb7)
  clear F3
  have F3 := F32
  clear F32
  have F42 := Lib.hid (F4.out.next hb7)
  clear F4
  have F4 := F42
  clear F42
  clear hb7
  have F5 := Lib.hid hr7
  have F5c := Lib.hid hc7
  have F5z := Lib.hid hnil7
  clear hr7 hc7 hnil7
  go_wp2_with fail
  refine (lawTake_any H _ _ _ _ a b k _ _ _ FP.out HN.out HC.out HL.out H_a.out H_b.out H_k.out HT1.out).mono ?_
  rintro e w8 ⟨⟨A8, c8, rfl, hr8, hnil8, hc8⟩, hb8⟩
  have hBz := HB.out.size
  have HB2 := Lib.hid (HB.out.trans (hb8.mono hBz))
  clear HB hBz
  have HB := HB2
  clear HB2
  have FP2 := Lib.hid (FP.out.next hb8)
  clear FP
  have FP := FP2
  clear FP2
  have F12 := Lib.hid (F1.out.next hb8)
  clear F1
  have F1 := F12
  clear F12
  have F22 := Lib.hid (F2.out.next hb8)
  clear F2
  have F2 := F22
  clear F22
  have F32 := Lib.hid (F3.out.next hb8)
  clear F3
  have F3 := F32
  clear F32
  have F42 := Lib.hid (F4.out.next hb8)
  clear F4
  have F4 := F42
  clear F42
  have F52 := Lib.hid (F5.out.next hb8)
  clear F5
  have F5 := F52
  clear F52
  clear hb8
  have F6 := Lib.hid hr8
  have F6c := Lib.hid hc8
  have F6z := Lib.hid hnil8
  clear hr8 hc8 hnil8
  go_wp2_with fail
  refine (s_same F5.out F6.out HL1.out HL1.out rfl).mono ?_
  rintro e w9 ⟨rfl, hb9⟩
  have hBz := HB.out.size
  have HB2 := Lib.hid (HB.out.trans (hb9.mono hBz))
  clear HB hBz
  have HB := HB2
  clear HB2
  have FP2 := Lib.hid (FP.out.next hb9)
  clear FP
  have FP := FP2
  clear FP2
  have F12 := Lib.hid (F1.out.next hb9)
  clear F1
  have F1 := F12
  clear F12
  have F22 := Lib.hid (F2.out.next hb9)
  clear F2
  have F2 := F22
  clear F22
  have F32 := Lib.hid (F3.out.next hb9)
  clear F3
  have F3 := F32
  clear F32
  have F42 := Lib.hid (F4.out.next hb9)
  clear F4
  have F4 := F42
  clear F42
  have F52 := Lib.hid (F5.out.next hb9)
  clear F5
  have F5 := F52
  clear F52
  have F62 := Lib.hid (F6.out.next hb9)
  clear F6
  have F6 := F62
  clear F62
  clear hb9
  go_wp2
  go_ret
  exact ⟨rfl, HB.out⟩

set_option maxRecDepth 100000 in
set_option maxHeartbeats 8000000 in
theorem twice_N2_in (H : StepOk) (A : Option Addr) (n c : Nat) (p : List (Int × Int)) (a m b k j : Int) (w : World) (hr : RS w w.heap.size A n p) (hnil : A = none → c = 0) (hnc : n ≤ c) (hn2 : n ≤ 200) (ha : I64 a) (hm : I64 m) (hb : I64 b) (hk : I64 k) (hj : I64 j) (hk0 : ¬ k < 0) (hj0 : ¬ j < 0) (hk9 : ¬ 1048576 < k) (hj9 : ¬ 1048576 - k < j) (e2 e3 : Int) (q r s : List (Int × Int)) (ht1 : takeR p a b k = (q, 0)) (ht2 : takeR q a b j = (r, e2)) (ht3 : takeR p a b (k + j) = (s, e3)) (he2 : (e2 == 0) = false) (he3 : (e3 == 0) = false) (hl1 : q.length ≤ 2000) (hlm : ¬ m ≤ a) (hmb : ¬ b ≤ m) (x : List (Int × Int)) (ht4 : takeR p a m k = (x, 0)) (hl4 : x.length ≤ 2000) (ht5 : takeR x m b k = (q, 0)) :
    Calls Try.prog 7 #[.slice A n c, .int .i64 a, .int .i64 m, .int .i64 b, .int .i64 k, .int .i64 j] w fun e w' => e = .returned (.bool true) ∧ Below w.heap.size w w' := by
  have FP := Lib.hid hr
  have HN := Lib.hid hnil
  have HC := Lib.hid hnc
  have HL : Hid (n ≤ 2000) := Lib.hid (by omega)
  have HB := Lib.hid (Below.refl w.heap.size w)
  have H_a := Lib.hid ha
  have ha1 := ha.1
  have ha2 := ha.2
  have H_m := Lib.hid hm
  have hm1 := hm.1
  have hm2 := hm.2
  have H_b := Lib.hid hb
  have hb1 := hb.1
  have hb2 := hb.2
  have H_k := Lib.hid hk
  have hk1 := hk.1
  have hk2 := hk.2
  have H_j := Lib.hid hj
  have hj1 := hj.1
  have hj2 := hj.2
  have HT1 := Lib.hid ht1
  have HT2 := Lib.hid ht2
  have HT3 := Lib.hid ht3
  have HL1 := Lib.hid hl1
  have HT4 := Lib.hid ht4
  have HL4 := Lib.hid hl4
  have HT5 := Lib.hid ht5
  clear hr hnil hnc ha hm hb hk hj ht1 ht2 ht3 hl1 ht4 hl4 ht5
  have HKJ : Hid (I64 (k + j)) := Lib.hid ⟨by omega, by omega⟩
  go_enter Try.func7, Try.ntmps7
  go_wp2_with fail
  refine (stepAwake_any H _).mono ?_
  rintro e w1 ⟨rfl, hb1⟩
  have hBz := HB.out.size
  have HB2 := Lib.hid (HB.out.trans (hb1.mono hBz))
  clear HB hBz
  have HB := HB2
  clear HB2
  have FP2 := Lib.hid (FP.out.next hb1)
  clear FP
  have FP := FP2
  clear FP2
  clear hb1
  go_wp2_with fail
  refine (calls_spost (H.take _ _ _ _ a b k _ FP.out HN.out HC.out HL.out H_a.out H_b.out H_k.out) HT1.out).mono ?_
  rintro e w2 ⟨⟨A2, c2, rfl, hr2, hnil2, hc2⟩, hb2⟩
  have hBz := HB.out.size
  have HB2 := Lib.hid (HB.out.trans (hb2.mono hBz))
  clear HB hBz
  have HB := HB2
  clear HB2
  have FP2 := Lib.hid (FP.out.next hb2)
  clear FP
  have FP := FP2
  clear FP2
  clear hb2
  have F1 := Lib.hid hr2
  have F1c := Lib.hid hc2
  have F1z := Lib.hid hnil2
  clear hr2 hc2 hnil2
  go_wp2_with fail
  refine (calls_spost (H.take _ _ _ _ a b j _ F1.out F1z.out F1c.out HL1.out H_a.out H_b.out H_j.out) HT2.out).mono ?_
  rintro e w3 ⟨⟨A3, c3, rfl, hr3, hnil3, hc3⟩, hb3⟩
  have hBz := HB.out.size
  have HB2 := Lib.hid (HB.out.trans (hb3.mono hBz))
  clear HB hBz
  have HB := HB2
  clear HB2
  have FP2 := Lib.hid (FP.out.next hb3)
  clear FP
  have FP := FP2
  clear FP2
  have F12 := Lib.hid (F1.out.next hb3)
  clear F1
  have F1 := F12
  clear F12
  clear hb3
  have F2 := Lib.hid hr3
  have F2c := Lib.hid hc3
  have F2z := Lib.hid hnil3
  clear hr3 hc3 hnil3
  go_wp2_with fail
  refine (calls_spost (H.take _ _ _ _ a b (k + j) _ FP.out HN.out HC.out HL.out H_a.out H_b.out HKJ.out) HT3.out).mono ?_
  rintro e w4 ⟨⟨A4, c4, rfl, hr4, hnil4, hc4⟩, hb4⟩
  have hBz := HB.out.size
  have HB2 := Lib.hid (HB.out.trans (hb4.mono hBz))
  clear HB hBz
  have HB := HB2
  clear HB2
  have FP2 := Lib.hid (FP.out.next hb4)
  clear FP
  have FP := FP2
  clear FP2
  have F12 := Lib.hid (F1.out.next hb4)
  clear F1
  have F1 := F12
  clear F12
  have F22 := Lib.hid (F2.out.next hb4)
  clear F2
  have F2 := F22
  clear F22
  clear hb4
  have F3 := Lib.hid hr4
  have F3c := Lib.hid hc4
  have F3z := Lib.hid hnil4
  clear hr4 hc4 hnil4
  go_wp2_with fail
  refine (calls_spost (H.take _ _ _ _ a m k _ FP.out HN.out HC.out HL.out H_a.out H_m.out H_k.out) HT4.out).mono ?_
  rintro e w5 ⟨⟨A5, c5, rfl, hr5, hnil5, hc5⟩, hb5⟩
  have hBz := HB.out.size
  have HB2 := Lib.hid (HB.out.trans (hb5.mono hBz))
  clear HB hBz
  have HB := HB2
  clear HB2
  have FP2 := Lib.hid (FP.out.next hb5)
  clear FP
  have FP := FP2
  clear FP2
  have F12 := Lib.hid (F1.out.next hb5)
  clear F1
  have F1 := F12
  clear F12
  have F22 := Lib.hid (F2.out.next hb5)
  clear F2
  have F2 := F22
  clear F22
  have F32 := Lib.hid (F3.out.next hb5)
  clear F3
  have F3 := F32
  clear F32
  clear hb5
  have F4 := Lib.hid hr5
  have F4c := Lib.hid hc5
  have F4z := Lib.hid hnil5
  clear hr5 hc5 hnil5
  go_wp2_with fail
  refine (calls_spost (H.take _ _ _ _ m b k _ F4.out F4z.out F4c.out HL4.out H_m.out H_b.out H_k.out) HT5.out).mono ?_
  rintro e w6 ⟨⟨A6, c6, rfl, hr6, hnil6, hc6⟩, hb6⟩
  have hBz := HB.out.size
  have HB2 := Lib.hid (HB.out.trans (hb6.mono hBz))
  clear HB hBz
  have HB := HB2
  clear HB2
  have FP2 := Lib.hid (FP.out.next hb6)
  clear FP
  have FP := FP2
  clear FP2
  have F12 := Lib.hid (F1.out.next hb6)
  clear F1
  have F1 := F12
  clear F12
  have F22 := Lib.hid (F2.out.next hb6)
  clear F2
  have F2 := F22
  clear F22
  have F32 := Lib.hid (F3.out.next hb6)
  clear F3
  have F3 := F32
  clear F32
  have F42 := Lib.hid (F4.out.next hb6)
  clear F4
  have F4 := F42
  clear F42
  clear hb6
  have F5 := Lib.hid hr6
  have F5c := Lib.hid hc6
  have F5z := Lib.hid hnil6
  clear hr6 hc6 hnil6
  go_wp2_with fail
  refine (lawTake_any H _ _ _ _ a b k _ _ _ FP.out HN.out HC.out HL.out H_a.out H_b.out H_k.out HT1.out).mono ?_
  rintro e w7 ⟨⟨A7, c7, rfl, hr7, hnil7, hc7⟩, hb7⟩
  have hBz := HB.out.size
  have HB2 := Lib.hid (HB.out.trans (hb7.mono hBz))
  clear HB hBz
  have HB := HB2
  clear HB2
  have FP2 := Lib.hid (FP.out.next hb7)
  clear FP
  have FP := FP2
  clear FP2
  have F12 := Lib.hid (F1.out.next hb7)
  clear F1
  have F1 := F12
  clear F12
  have F22 := Lib.hid (F2.out.next hb7)
  clear F2
  have F2 := F22
  clear F22
  have F32 := Lib.hid (F3.out.next hb7)
  clear F3
  have F3 := F32
  clear F32
  have F42 := Lib.hid (F4.out.next hb7)
  clear F4
  have F4 := F42
  clear F42
  have F52 := Lib.hid (F5.out.next hb7)
  clear F5
  have F5 := F52
  clear F52
  clear hb7
  have F6 := Lib.hid hr7
  have F6c := Lib.hid hc7
  have F6z := Lib.hid hnil7
  clear hr7 hc7 hnil7
  go_wp2_with fail
  refine (s_same F5.out F6.out HL1.out HL1.out rfl).mono ?_
  rintro e w8 ⟨rfl, hb8⟩
  have hBz := HB.out.size
  have HB2 := Lib.hid (HB.out.trans (hb8.mono hBz))
  clear HB hBz
  have HB := HB2
  clear HB2
  have FP2 := Lib.hid (FP.out.next hb8)
  clear FP
  have FP := FP2
  clear FP2
  have F12 := Lib.hid (F1.out.next hb8)
  clear F1
  have F1 := F12
  clear F12
  have F22 := Lib.hid (F2.out.next hb8)
  clear F2
  have F2 := F22
  clear F22
  have F32 := Lib.hid (F3.out.next hb8)
  clear F3
  have F3 := F32
  clear F32
  have F42 := Lib.hid (F4.out.next hb8)
  clear F4
  have F4 := F42
  clear F42
  have F52 := Lib.hid (F5.out.next hb8)
  clear F5
  have F5 := F52
  clear F52
  have F62 := Lib.hid (F6.out.next hb8)
  clear F6
  have F6 := F62
  clear F62
  clear hb8
  go_wp2
  go_ret
  exact ⟨rfl, HB.out⟩

set_option maxRecDepth 100000 in
set_option maxHeartbeats 8000000 in
theorem twice_N1_h (H : StepOk) (A : Option Addr) (n c : Nat) (p : List (Int × Int)) (a m b k j : Int) (w : World) (hr : RS w w.heap.size A n p) (hnil : A = none → c = 0) (hnc : n ≤ c) (hn2 : n ≤ 200) (ha : I64 a) (hm : I64 m) (hb : I64 b) (hk : I64 k) (hj : I64 j) (hk0 : ¬ k < 0) (hj0 : ¬ j < 0) (hk9 : ¬ 1048576 < k) (hj9 : ¬ 1048576 - k < j) (e1 e2 e3 : Int) (q r s : List (Int × Int)) (ht1 : takeR p a b k = (q, e1)) (ht2 : takeR q a b j = (r, e2)) (ht3 : takeR p a b (k + j) = (s, e3)) (he1 : (e1 == 0) = false) (he1' : (e1 != 0) = true) (he3 : (e3 == 0) = false) (hl1 : q.length ≤ 2000) (hlm : ¬ m ≤ a) (hmb : ¬ b ≤ m) (x y : List (Int × Int)) (e4 e5 : Int) (ht4 : takeR p a m k = (x, e4)) (hl4 : x.length ≤ 2000) (ht5 : takeR x m b k = (y, e5)) (he4 : (e4 == 0) = false) :
    Calls Try.prog 7 #[.slice A n c, .int .i64 a, .int .i64 m, .int .i64 b, .int .i64 k, .int .i64 j] w fun e w' => e = .returned (.bool true) ∧ Below w.heap.size w w' := by
  have FP := Lib.hid hr
  have HN := Lib.hid hnil
  have HC := Lib.hid hnc
  have HL : Hid (n ≤ 2000) := Lib.hid (by omega)
  have HB := Lib.hid (Below.refl w.heap.size w)
  have H_a := Lib.hid ha
  have ha1 := ha.1
  have ha2 := ha.2
  have H_m := Lib.hid hm
  have hm1 := hm.1
  have hm2 := hm.2
  have H_b := Lib.hid hb
  have hb1 := hb.1
  have hb2 := hb.2
  have H_k := Lib.hid hk
  have hk1 := hk.1
  have hk2 := hk.2
  have H_j := Lib.hid hj
  have hj1 := hj.1
  have hj2 := hj.2
  have HT1 := Lib.hid ht1
  have HT2 := Lib.hid ht2
  have HT3 := Lib.hid ht3
  have HL1 := Lib.hid hl1
  have HT4 := Lib.hid ht4
  have HL4 := Lib.hid hl4
  have HT5 := Lib.hid ht5
  clear hr hnil hnc ha hm hb hk hj ht1 ht2 ht3 hl1 ht4 hl4 ht5
  have HKJ : Hid (I64 (k + j)) := Lib.hid ⟨by omega, by omega⟩
  go_enter Try.func7, Try.ntmps7
  go_wp2_with fail
  refine (stepAwake_any H _).mono ?_
  rintro e w1 ⟨rfl, hb1⟩
  have hBz := HB.out.size
  have HB2 := Lib.hid (HB.out.trans (hb1.mono hBz))
  clear HB hBz
  have HB := HB2
  clear HB2
  have FP2 := Lib.hid (FP.out.next hb1)
  clear FP
  have FP := FP2
  clear FP2
  clear hb1
  go_wp2_with fail
  refine (calls_spost (H.take _ _ _ _ a b k _ FP.out HN.out HC.out HL.out H_a.out H_b.out H_k.out) HT1.out).mono ?_
  rintro e w2 ⟨⟨A2, c2, rfl, hr2, hnil2, hc2⟩, hb2⟩
  have hBz := HB.out.size
  have HB2 := Lib.hid (HB.out.trans (hb2.mono hBz))
  clear HB hBz
  have HB := HB2
  clear HB2
  have FP2 := Lib.hid (FP.out.next hb2)
  clear FP
  have FP := FP2
  clear FP2
  clear hb2
  have F1 := Lib.hid hr2
  have F1c := Lib.hid hc2
  have F1z := Lib.hid hnil2
  clear hr2 hc2 hnil2
  go_wp2_with fail
  refine (calls_spost (H.take _ _ _ _ a b j _ F1.out F1z.out F1c.out HL1.out H_a.out H_b.out H_j.out) HT2.out).mono ?_
  rintro e w3 ⟨⟨A3, c3, rfl, hr3, hnil3, hc3⟩, hb3⟩
  have hBz := HB.out.size
  have HB2 := Lib.hid (HB.out.trans (hb3.mono hBz))
  clear HB hBz
  have HB := HB2
  clear HB2
  have FP2 := Lib.hid (FP.out.next hb3)
  clear FP
  have FP := FP2
  clear FP2
  have F12 := Lib.hid (F1.out.next hb3)
  clear F1
  have F1 := F12
  clear F12
  clear hb3
  have F2 := Lib.hid hr3
  have F2c := Lib.hid hc3
  have F2z := Lib.hid hnil3
  clear hr3 hc3 hnil3
  go_wp2_with fail
  refine (calls_spost (H.take _ _ _ _ a b (k + j) _ FP.out HN.out HC.out HL.out H_a.out H_b.out HKJ.out) HT3.out).mono ?_
  rintro e w4 ⟨⟨A4, c4, rfl, hr4, hnil4, hc4⟩, hb4⟩
  have hBz := HB.out.size
  have HB2 := Lib.hid (HB.out.trans (hb4.mono hBz))
  clear HB hBz
  have HB := HB2
  clear HB2
  have FP2 := Lib.hid (FP.out.next hb4)
  clear FP
  have FP := FP2
  clear FP2
  have F12 := Lib.hid (F1.out.next hb4)
  clear F1
  have F1 := F12
  clear F12
  have F22 := Lib.hid (F2.out.next hb4)
  clear F2
  have F2 := F22
  clear F22
  clear hb4
  have F3 := Lib.hid hr4
  have F3c := Lib.hid hc4
  have F3z := Lib.hid hnil4
  clear hr4 hc4 hnil4
  go_wp2_with fail
  refine (calls_spost (H.take _ _ _ _ a m k _ FP.out HN.out HC.out HL.out H_a.out H_m.out H_k.out) HT4.out).mono ?_
  rintro e w5 ⟨⟨A5, c5, rfl, hr5, hnil5, hc5⟩, hb5⟩
  have hBz := HB.out.size
  have HB2 := Lib.hid (HB.out.trans (hb5.mono hBz))
  clear HB hBz
  have HB := HB2
  clear HB2
  have FP2 := Lib.hid (FP.out.next hb5)
  clear FP
  have FP := FP2
  clear FP2
  have F12 := Lib.hid (F1.out.next hb5)
  clear F1
  have F1 := F12
  clear F12
  have F22 := Lib.hid (F2.out.next hb5)
  clear F2
  have F2 := F22
  clear F22
  have F32 := Lib.hid (F3.out.next hb5)
  clear F3
  have F3 := F32
  clear F32
  clear hb5
  have F4 := Lib.hid hr5
  have F4c := Lib.hid hc5
  have F4z := Lib.hid hnil5
  clear hr5 hc5 hnil5
  go_wp2_with fail
  refine (calls_spost (H.take _ _ _ _ m b k _ F4.out F4z.out F4c.out HL4.out H_m.out H_b.out H_k.out) HT5.out).mono ?_
  rintro e w6 ⟨⟨A6, c6, rfl, hr6, hnil6, hc6⟩, hb6⟩
  have hBz := HB.out.size
  have HB2 := Lib.hid (HB.out.trans (hb6.mono hBz))
  clear HB hBz
  have HB := HB2
  clear HB2
  have FP2 := Lib.hid (FP.out.next hb6)
  clear FP
  have FP := FP2
  clear FP2
  have F12 := Lib.hid (F1.out.next hb6)
  clear F1
  have F1 := F12
  clear F12
  have F22 := Lib.hid (F2.out.next hb6)
  clear F2
  have F2 := F22
  clear F22
  have F32 := Lib.hid (F3.out.next hb6)
  clear F3
  have F3 := F32
  clear F32
  have F42 := Lib.hid (F4.out.next hb6)
  clear F4
  have F4 := F42
  clear F42
  clear hb6
  have F5 := Lib.hid hr6
  have F5c := Lib.hid hc6
  have F5z := Lib.hid hnil6
  clear hr6 hc6 hnil6
  go_wp2
  go_ret
  exact ⟨rfl, HB.out⟩

set_option maxRecDepth 100000 in
set_option maxHeartbeats 8000000 in
theorem twice_N1_i (H : StepOk) (A : Option Addr) (n c : Nat) (p : List (Int × Int)) (a m b k j : Int) (w : World) (hr : RS w w.heap.size A n p) (hnil : A = none → c = 0) (hnc : n ≤ c) (hn2 : n ≤ 200) (ha : I64 a) (hm : I64 m) (hb : I64 b) (hk : I64 k) (hj : I64 j) (hk0 : ¬ k < 0) (hj0 : ¬ j < 0) (hk9 : ¬ 1048576 < k) (hj9 : ¬ 1048576 - k < j) (e1 e2 e3 : Int) (q r s : List (Int × Int)) (ht1 : takeR p a b k = (q, e1)) (ht2 : takeR q a b j = (r, e2)) (ht3 : takeR p a b (k + j) = (s, e3)) (he1 : (e1 == 0) = false) (he1' : (e1 != 0) = true) (he3 : (e3 == 0) = false) (hl1 : q.length ≤ 2000) (hlm : ¬ m ≤ a) (hmb : ¬ b ≤ m) (x y : List (Int × Int)) (e5 : Int) (ht4 : takeR p a m k = (x, 0)) (hl4 : x.length ≤ 2000) (ht5 : takeR x m b k = (y, e5)) (he5 : (e5 == 0) = false) :
    Calls Try.prog 7 #[.slice A n c, .int .i64 a, .int .i64 m, .int .i64 b, .int .i64 k, .int .i64 j] w fun e w' => e = .returned (.bool true) ∧ Below w.heap.size w w' := by
  have FP := Lib.hid hr
  have HN := Lib.hid hnil
  have HC := Lib.hid hnc
  have HL : Hid (n ≤ 2000) := Lib.hid (by omega)
  have HB := Lib.hid (Below.refl w.heap.size w)
  have H_a := Lib.hid ha
  have ha1 := ha.1
  have ha2 := ha.2
  have H_m := Lib.hid hm
  have hm1 := hm.1
  have hm2 := hm.2
  have H_b := Lib.hid hb
  have hb1 := hb.1
  have hb2 := hb.2
  have H_k := Lib.hid hk
  have hk1 := hk.1
  have hk2 := hk.2
  have H_j := Lib.hid hj
  have hj1 := hj.1
  have hj2 := hj.2
  have HT1 := Lib.hid ht1
  have HT2 := Lib.hid ht2
  have HT3 := Lib.hid ht3
  have HL1 := Lib.hid hl1
  have HT4 := Lib.hid ht4
  have HL4 := Lib.hid hl4
  have HT5 := Lib.hid ht5
  clear hr hnil hnc ha hm hb hk hj ht1 ht2 ht3 hl1 ht4 hl4 ht5
  have HKJ : Hid (I64 (k + j)) := Lib.hid ⟨by omega, by omega⟩
  go_enter Try.func7, Try.ntmps7
  go_wp2_with fail
  refine (stepAwake_any H _).mono ?_
  rintro e w1 ⟨rfl, hb1⟩
  have hBz := HB.out.size
  have HB2 := Lib.hid (HB.out.trans (hb1.mono hBz))
  clear HB hBz
  have HB := HB2
  clear HB2
  have FP2 := Lib.hid (FP.out.next hb1)
  clear FP
  have FP := FP2
  clear FP2
  clear hb1
  go_wp2_with fail
  refine (calls_spost (H.take _ _ _ _ a b k _ FP.out HN.out HC.out HL.out H_a.out H_b.out H_k.out) HT1.out).mono ?_
  rintro e w2 ⟨⟨A2, c2, rfl, hr2, hnil2, hc2⟩, hb2⟩
  have hBz := HB.out.size
  have HB2 := Lib.hid (HB.out.trans (hb2.mono hBz))
  clear HB hBz
  have HB := HB2
  clear HB2
  have FP2 := Lib.hid (FP.out.next hb2)
  clear FP
  have FP := FP2
  clear FP2
  clear hb2
  have F1 := Lib.hid hr2
  have F1c := Lib.hid hc2
  have F1z := Lib.hid hnil2
  clear hr2 hc2 hnil2
  go_wp2_with fail
  refine (calls_spost (H.take _ _ _ _ a b j _ F1.out F1z.out F1c.out HL1.out H_a.out H_b.out H_j.out) HT2.out).mono ?_
  rintro e w3 ⟨⟨A3, c3, rfl, hr3, hnil3, hc3⟩, hb3⟩
  have hBz := HB.out.size
  have HB2 := Lib.hid (HB.out.trans (hb3.mono hBz))
  clear HB hBz
  have HB := HB2
  clear HB2
  have FP2 := Lib.hid (FP.out.next hb3)
  clear FP
  have FP := FP2
  clear FP2
  have F12 := Lib.hid (F1.out.next hb3)
  clear F1
  have F1 := F12
  clear F12
  clear hb3
  have F2 := Lib.hid hr3
  have F2c := Lib.hid hc3
  have F2z := Lib.hid hnil3
  clear hr3 hc3 hnil3
  go_wp2_with fail
  refine (calls_spost (H.take _ _ _ _ a b (k + j) _ FP.out HN.out HC.out HL.out H_a.out H_b.out HKJ.out) HT3.out).mono ?_
  rintro e w4 ⟨⟨A4, c4, rfl, hr4, hnil4, hc4⟩, hb4⟩
  have hBz := HB.out.size
  have HB2 := Lib.hid (HB.out.trans (hb4.mono hBz))
  clear HB hBz
  have HB := HB2
  clear HB2
  have FP2 := Lib.hid (FP.out.next hb4)
  clear FP
  have FP := FP2
  clear FP2
  have F12 := Lib.hid (F1.out.next hb4)
  clear F1
  have F1 := F12
  clear F12
  have F22 := Lib.hid (F2.out.next hb4)
  clear F2
  have F2 := F22
  clear F22
  clear hb4
  have F3 := Lib.hid hr4
  have F3c := Lib.hid hc4
  have F3z := Lib.hid hnil4
  clear hr4 hc4 hnil4
  go_wp2_with fail
  refine (calls_spost (H.take _ _ _ _ a m k _ FP.out HN.out HC.out HL.out H_a.out H_m.out H_k.out) HT4.out).mono ?_
  rintro e w5 ⟨⟨A5, c5, rfl, hr5, hnil5, hc5⟩, hb5⟩
  have hBz := HB.out.size
  have HB2 := Lib.hid (HB.out.trans (hb5.mono hBz))
  clear HB hBz
  have HB := HB2
  clear HB2
  have FP2 := Lib.hid (FP.out.next hb5)
  clear FP
  have FP := FP2
  clear FP2
  have F12 := Lib.hid (F1.out.next hb5)
  clear F1
  have F1 := F12
  clear F12
  have F22 := Lib.hid (F2.out.next hb5)
  clear F2
  have F2 := F22
  clear F22
  have F32 := Lib.hid (F3.out.next hb5)
  clear F3
  have F3 := F32
  clear F32
  clear hb5
  have F4 := Lib.hid hr5
  have F4c := Lib.hid hc5
  have F4z := Lib.hid hnil5
  clear hr5 hc5 hnil5
  go_wp2_with fail
  refine (calls_spost (H.take _ _ _ _ m b k _ F4.out F4z.out F4c.out HL4.out H_m.out H_b.out H_k.out) HT5.out).mono ?_
  rintro e w6 ⟨⟨A6, c6, rfl, hr6, hnil6, hc6⟩, hb6⟩
  have hBz := HB.out.size
  have HB2 := Lib.hid (HB.out.trans (hb6.mono hBz))
  clear HB hBz
  have HB := HB2
  clear HB2
  have FP2 := Lib.hid (FP.out.next hb6)
  clear FP
  have FP := FP2
  clear FP2
  have F12 := Lib.hid (F1.out.next hb6)
  clear F1
  have F1 := F12
  clear F12
  have F22 := Lib.hid (F2.out.next hb6)
  clear F2
  have F2 := F22
  clear F22
  have F32 := Lib.hid (F3.out.next hb6)
  clear F3
  have F3 := F32
  clear F32
  have F42 := Lib.hid (F4.out.next hb6)
  clear F4
  have F4 := F42
  clear F42
  clear hb6
  have F5 := Lib.hid hr6
  have F5c := Lib.hid hc6
  have F5z := Lib.hid hnil6
  clear hr6 hc6 hnil6
  go_wp2
  go_ret
  exact ⟨rfl, HB.out⟩

theorem beq_no {x : Int} (h : x ≠ 0) : (x == 0) = false := by simpa using h
theorem stepTwice_walk (H : StepOk) (A : Option Addr) (n c : Nat) (p : List (Int × Int)) (a m b k j : Int) (w : World) (hr : RS w w.heap.size A n p) (hnil : A = none → c = 0) (hnc : n ≤ c) (hn : n ≤ maxLen) (ha : I64 a) (hm : I64 m) (hb : I64 b) (hk : I64 k) (hj : I64 j) :
    Calls Try.prog 7 #[.slice A n c, .int .i64 a, .int .i64 m, .int .i64 b, .int .i64 k, .int .i64 j] w fun e w' => e = .returned (.bool true) ∧ Below w.heap.size w w' := by
  by_cases h : 200 < n
  · exact twice_long H A n c a m b k j w hn h
  have hn2 : n ≤ 200 := by omega
  have hpl : p.length ≤ 200 := by have := hr.1; omega
  by_cases hk0 : k < 0
  · exact twice_k H A n c p a m b k j w hr hnil hnc hn2 ha hm hb hk hj hk0
  by_cases hj0 : j < 0
  · exact twice_j H A n c p a m b k j w hr hnil hnc hn2 ha hm hb hk hj hk0 hj0
  by_cases hk9 : 1048576 < k
  · exact twice_kb H A n c p a m b k j w hr hnil hnc hn2 ha hm hb hk hj hk0 hj0 hk9
  by_cases hj9 : 1048576 - k < j
  · exact twice_jb H A n c p a m b k j w hr hnil hnc hn2 ha hm hb hk hj hk0 hj0 hk9 hj9
  have hlen : ∀ x y z, (takeR p x y z).1.length ≤ 2000 := fun x y z => by rcases takeR_len p x y z with h | h <;> omega
  by_cases hok : mayP p a b = true ∧ 0 ≤ k ∧ k ≤ MAXF ∧ k ≤ leastL p a b
  · obtain ⟨hmay, g0, g1, g2⟩ := hok
    obtain ⟨⟨hc, hbd, _⟩, f0, f1, f2⟩ := (mayP_iff p a b).1 hmay
    have ht1 := take_ok (by omega) hmay g0 g1 g2
    obtain ⟨r1, r2, r3⟩ := taken_right (by omega) hmay g0 g2
    have hls := least_taken (by omega) hmay g0 g2
    have hmq : mayP (changeL p a b (-k)) a b = true := by rw [may_taken (by omega) hmay g0 g2]; exact decide_eq_true ⟨f0, f1, f2⟩
    have hin : ¬ m ≤ a → ¬ b ≤ m → takeR p a m k = (changeL p a m (-k), 0) ∧ (changeL p a m (-k)).length ≤ 2000 ∧ takeR (changeL p a m (-k)) m b k = (changeL p a b (-k), 0) := by
      intro i1 i2
      have hsp := (least_split (n := k) hc f0 (show a < m by omega) (show m < b by omega)).1 g2
      have hmm : mayP p a m = true := (mayP_iff _ _ _).2 ⟨((mayP_iff p a b).1 hmay).1, f0, by omega, by omega⟩
      obtain ⟨_, s2, _⟩ := taken_right (by omega) hmm g0 hsp.1
      have hmq2 : mayP (changeL p a m (-k)) m b = true := by rw [may_taken (by omega) hmm g0 hsp.1]; exact decide_eq_true ⟨by omega, by omega, f2⟩
      refine ⟨take_ok (by omega) hmm g0 g1 hsp.1, by omega, ?_⟩
      rw [take_ok (by omega) hmq2 g0 g1 (by rw [least_beside (by omega) hmm g0 hsp.1 (by omega) f2]; exact hsp.2), change_beside hc f0 (by omega) (by omega) f2]
    by_cases hsum : k + j ≤ leastL p a b
    · have ht2 := take_ok (show (changeL p a b (-k)).length ≤ 1000 by omega) hmq (show 0 ≤ j by omega) (show j ≤ MAXF by unfold MAXF; omega) (by omega)
      have ht3 := take_ok (show p.length ≤ 1000 by omega) hmay (show 0 ≤ k + j by omega) (show k + j ≤ MAXF by unfold MAXF; omega) hsum
      have e : changeL (changeL p a b (-k)) a b (-j) = changeL p a b (-(k + j)) := by rw [change_twice hc f0 f1 f2]; congr 1; omega
      rw [e] at ht2
      have hl2 := hlen a b (k + j)
      rw [ht3] at hl2
      by_cases i1 : m ≤ a
      · exact twice_G_left H A n c p a m b k j w hr hnil hnc hn2 ha hm hb hk hj hk0 hj0 hk9 hj9 _ _ ht1 ht2 ht3 (by omega) hl2 i1
      · by_cases i2 : b ≤ m
        · exact twice_G_right H A n c p a m b k j w hr hnil hnc hn2 ha hm hb hk hj hk0 hj0 hk9 hj9 _ _ ht1 ht2 ht3 (by omega) hl2 i1 i2
        · obtain ⟨s1, s2, s3⟩ := hin i1 i2
          exact twice_G_in H A n c p a m b k j w hr hnil hnc hn2 ha hm hb hk hj hk0 hj0 hk9 hj9 _ _ ht1 ht2 ht3 (by omega) hl2 i1 i2 _ s1 s2 s3
    · obtain ⟨e2, ht2, he2⟩ := take_no (p := changeL p a b (-k)) (a := a) (b := b) (n := j) (fun h => hsum (by omega))
      obtain ⟨e3, ht3, he3⟩ := take_no (p := p) (a := a) (b := b) (n := k + j) (fun h => hsum (by omega))
      by_cases i1 : m ≤ a
      · exact twice_N2_left H A n c p a m b k j w hr hnil hnc hn2 ha hm hb hk hj hk0 hj0 hk9 hj9 _ _ _ _ _ ht1 ht2 ht3 (beq_no he2) (beq_no he3) (by omega) i1
      · by_cases i2 : b ≤ m
        · exact twice_N2_right H A n c p a m b k j w hr hnil hnc hn2 ha hm hb hk hj hk0 hj0 hk9 hj9 _ _ _ _ _ ht1 ht2 ht3 (beq_no he2) (beq_no he3) (by omega) i1 i2
        · obtain ⟨s1, s2, s3⟩ := hin i1 i2
          exact twice_N2_in H A n c p a m b k j w hr hnil hnc hn2 ha hm hb hk hj hk0 hj0 hk9 hj9 _ _ _ _ _ ht1 ht2 ht3 (beq_no he2) (beq_no he3) (by omega) i1 i2 _ s1 s2 s3
  · obtain ⟨e1, ht1, he1⟩ := take_no hok
    obtain ⟨e3, ht3, he3⟩ := take_no (p := p) (a := a) (b := b) (n := k + j) (fun h => hok ⟨h.1, by omega, by unfold MAXF; omega, by omega⟩)
    obtain ⟨x2, ht2⟩ : ∃ x, takeR p a b j = x := ⟨_, rfl⟩
    obtain ⟨l2, e2⟩ := x2
    by_cases i1 : m ≤ a
    · exact twice_N1_left H A n c p a m b k j w hr hnil hnc hn2 ha hm hb hk hj hk0 hj0 hk9 hj9 _ _ _ _ _ _ ht1 ht2 ht3 (beq_no he1) (beq_no he3) (by omega) i1
    · by_cases i2 : b ≤ m
      · exact twice_N1_right H A n c p a m b k j w hr hnil hnc hn2 ha hm hb hk hj hk0 hj0 hk9 hj9 _ _ _ _ _ _ ht1 ht2 ht3 (beq_no he1) (beq_no he3) (by omega) i1 i2
      · by_cases hok4 : mayP p a m = true ∧ 0 ≤ k ∧ k ≤ MAXF ∧ k ≤ leastL p a m
        · obtain ⟨hmm, g0, g1, g2⟩ := hok4
          obtain ⟨⟨hc, hbd, hln⟩, f0, f1, f2⟩ := (mayP_iff p a m).1 hmm
          have ht4 := take_ok (show p.length ≤ 1000 by omega) hmm g0 g1 g2
          obtain ⟨_, s2, _⟩ := taken_right (show p.length ≤ 1000 by omega) hmm g0 g2
          obtain ⟨e5, ht5, he5⟩ := take_no (p := changeL p a m (-k)) (a := m) (b := b) (n := k) (fun h => by
            have h1 := h.1
            rw [may_taken (by omega) hmm g0 g2, decide_eq_true_eq] at h1
            have h4 := h.2.2.2
            rw [least_beside (by omega) hmm g0 g2 h1.2.1 h1.2.2] at h4
            exact hok ⟨(mayP_iff _ _ _).2 ⟨⟨hc, hbd, hln⟩, f0, by omega, h1.2.2⟩, g0, g1, (least_split hc f0 (by omega) (by omega)).2 ⟨g2, h4⟩⟩)
          exact twice_N1_i H A n c p a m b k j w hr hnil hnc hn2 ha hm hb hk hj hk0 hj0 hk9 hj9 _ _ _ _ _ _ ht1 ht2 ht3 (beq_no he1) (bne_iff_ne.2 he1) (beq_no he3) (by omega) i1 i2 _ _ _ ht4 (by omega) ht5 (beq_no he5)
        · obtain ⟨e4, ht4, he4⟩ := take_no hok4
          obtain ⟨x5, ht5⟩ : ∃ x, takeR p m b k = x := ⟨_, rfl⟩
          obtain ⟨l5, e5⟩ := x5
          exact twice_N1_h H A n c p a m b k j w hr hnil hnc hn2 ha hm hb hk hj hk0 hj0 hk9 hj9 _ _ _ _ _ _ ht1 ht2 ht3 (beq_no he1) (bne_iff_ne.2 he1) (beq_no he3) (by omega) i1 i2 _ _ _ _ ht4 (by omega) ht5 (beq_no he4)

end Go.Proofs.Ytiilnacfdgmfcaa
