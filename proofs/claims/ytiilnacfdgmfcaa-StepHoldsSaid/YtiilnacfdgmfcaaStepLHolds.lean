/- The statement StepHolds, as a walk over the contracts: of any profile, times, length and number the call returns true. -/
import Derived.Test.YtiilnacfdgmfcaaStepAwake
import Derived.Test.YtiilnacfdgmfcaaStepLaws
import Derived.Test.YtiilnacfdgmfcaaStepLTakes
namespace Go.Proofs.Ytiilnacfdgmfcaa
open Go.RowKit

set_option maxRecDepth 100000 in
theorem holds_long (H : StepOk) (A : Option Addr) (n c : Nat) (a l k y : Int) (w : World) (hn : n ≤ maxLen) (hl : 200 < n) :
    Calls Try.prog 6 #[.slice A n c, .int .i64 a, .int .i64 l, .int .i64 k, .int .i64 y] w fun e w' => e = .returned (.bool true) ∧ Below w.heap.size w w' := by
  unfold maxLen at hn
  go_enter Try.func6, Try.ntmps6
  go_wp2_with fail
  refine (stepAwake_any H _).mono ?_
  rintro e w1 ⟨rfl, hb1⟩
  go_wp2
  go_ret
  exact ⟨rfl, hb1⟩
set_option maxRecDepth 100000 in
set_option maxHeartbeats 8000000 in
theorem holds_wrong (H : StepOk) (A : Option Addr) (n c : Nat) (p : List (Int × Int)) (a l k y : Int) (w : World) (hr : RS w w.heap.size A n p) (hnil : A = none → c = 0) (hnc : n ≤ c) (hn2 : n ≤ 200) (ha : I64 a) (hl : I64 l) (hk : I64 k) (hy : I64 y) (ht : firstR p a l k = (0, false)) (hrp : rightP p = false) :
    Calls Try.prog 6 #[.slice A n c, .int .i64 a, .int .i64 l, .int .i64 k, .int .i64 y] w fun e w' => e = .returned (.bool true) ∧ Below w.heap.size w w' := by
  have FP := Lib.hid hr
  have HN := Lib.hid hnil
  have HC := Lib.hid hnc
  have HL : Hid (n ≤ 2000) := Lib.hid (by omega)
  have HB := Lib.hid (Below.refl w.heap.size w)
  have H_a := Lib.hid ha
  have ha1 := ha.1
  have ha2 := ha.2
  have H_l := Lib.hid hl
  have hl1 := hl.1
  have hl2 := hl.2
  have H_k := Lib.hid hk
  have hk1 := hk.1
  have hk2 := hk.2
  have H_y := Lib.hid hy
  have hy1 := hy.1
  have hy2 := hy.2
  have HT := Lib.hid ht
  have HRP := Lib.hid hrp
  clear hr hnil hnc ha hl hk hy ht hrp
  go_enter Try.func6, Try.ntmps6
  go_wp2_with fail
  refine (stepAwake_any H _).mono ?_
  rintro e w1 ⟨rfl, hb1⟩
  have hBz := HB.out.size
  have HB2 := Lib.hid (HB.out.trans (hb1.mono hBz))
  clear HB hBz
  have HB := HB2
  clear HB2
  have FP2 := Lib.hid (FP.out.next hb1)
  clear FP
  have FP := FP2
  clear FP2
  clear hb1
  go_wp2_with fail
  refine (calls_first (H.first _ _ _ _ a l k _ FP.out HL.out H_a.out H_l.out H_k.out) HT.out).mono ?_
  rintro e w2 ⟨rfl, hb2⟩
  have hBz := HB.out.size
  have HB2 := Lib.hid (HB.out.trans (hb2.mono hBz))
  clear HB hBz
  have HB := HB2
  clear HB2
  have FP2 := Lib.hid (FP.out.next hb2)
  clear FP
  have FP := FP2
  clear FP2
  clear hb2
  go_wp2_with fail
  refine (calls_bool (H.right _ _ _ _ _ FP.out HL.out) HRP.out).mono ?_
  rintro e w3 ⟨rfl, hb3⟩
  have hBz := HB.out.size
  have HB2 := Lib.hid (HB.out.trans (hb3.mono hBz))
  clear HB hBz
  have HB := HB2
  clear HB2
  have FP2 := Lib.hid (FP.out.next hb3)
  clear FP
  have FP := FP2
  clear FP2
  clear hb3
  go_wp2
  go_ret
  exact ⟨rfl, HB.out⟩

set_option maxRecDepth 100000 in
set_option maxHeartbeats 8000000 in
theorem holds_notime (H : StepOk) (A : Option Addr) (n c : Nat) (p : List (Int × Int)) (a l k y : Int) (w : World) (hr : RS w w.heap.size A n p) (hnil : A = none → c = 0) (hnc : n ≤ c) (hn2 : n ≤ 200) (ha : I64 a) (hl : I64 l) (hk : I64 k) (hy : I64 y) (ht : firstR p a l k = (0, false)) (hrp : rightP p = true) (htb : timeB a = false) :
    Calls Try.prog 6 #[.slice A n c, .int .i64 a, .int .i64 l, .int .i64 k, .int .i64 y] w fun e w' => e = .returned (.bool true) ∧ Below w.heap.size w w' := by
  have FP := Lib.hid hr
  have HN := Lib.hid hnil
  have HC := Lib.hid hnc
  have HL : Hid (n ≤ 2000) := Lib.hid (by omega)
  have HB := Lib.hid (Below.refl w.heap.size w)
  have H_a := Lib.hid ha
  have ha1 := ha.1
  have ha2 := ha.2
  have H_l := Lib.hid hl
  have hl1 := hl.1
  have hl2 := hl.2
  have H_k := Lib.hid hk
  have hk1 := hk.1
  have hk2 := hk.2
  have H_y := Lib.hid hy
  have hy1 := hy.1
  have hy2 := hy.2
  have HT := Lib.hid ht
  have HRP := Lib.hid hrp
  have HTB := Lib.hid htb
  clear hr hnil hnc ha hl hk hy ht hrp htb
  go_enter Try.func6, Try.ntmps6
  go_wp2_with fail
  refine (stepAwake_any H _).mono ?_
  rintro e w1 ⟨rfl, hb1⟩
  have hBz := HB.out.size
  have HB2 := Lib.hid (HB.out.trans (hb1.mono hBz))
  clear HB hBz
  have HB := HB2
  clear HB2
  have FP2 := Lib.hid (FP.out.next hb1)
  clear FP
  have FP := FP2
  clear FP2
  clear hb1
  go_wp2_with fail
  refine (calls_first (H.first _ _ _ _ a l k _ FP.out HL.out H_a.out H_l.out H_k.out) HT.out).mono ?_
  rintro e w2 ⟨rfl, hb2⟩
  have hBz := HB.out.size
  have HB2 := Lib.hid (HB.out.trans (hb2.mono hBz))
  clear HB hBz
  have HB := HB2
  clear HB2
  have FP2 := Lib.hid (FP.out.next hb2)
  clear FP
  have FP := FP2
  clear FP2
  clear hb2
  go_wp2_with fail
  refine (calls_bool (H.right _ _ _ _ _ FP.out HL.out) HRP.out).mono ?_
  rintro e w3 ⟨rfl, hb3⟩
  have hBz := HB.out.size
  have HB2 := Lib.hid (HB.out.trans (hb3.mono hBz))
  clear HB hBz
  have HB := HB2
  clear HB2
  have FP2 := Lib.hid (FP.out.next hb3)
  clear FP
  have FP := FP2
  clear FP2
  clear hb3
  go_wp2_with fail
  refine (calls_bool (H.time a _ H_a.out) HTB.out).mono ?_
  rintro e w4 ⟨rfl, hb4⟩
  have hBz := HB.out.size
  have HB2 := Lib.hid (HB.out.trans (hb4.mono hBz))
  clear HB hBz
  have HB := HB2
  clear HB2
  have FP2 := Lib.hid (FP.out.next hb4)
  clear FP
  have FP := FP2
  clear FP2
  clear hb4
  go_wp2
  go_ret
  exact ⟨rfl, HB.out⟩

set_option maxRecDepth 100000 in
set_option maxHeartbeats 8000000 in
theorem holds_never (H : StepOk) (A : Option Addr) (n c : Nat) (p : List (Int × Int)) (a l k y : Int) (w : World) (hr : RS w w.heap.size A n p) (hnil : A = none → c = 0) (hnc : n ≤ c) (hn2 : n ≤ 200) (ha : I64 a) (hl : I64 l) (hk : I64 k) (hy : I64 y) (ht : firstR p a l k = (0, false)) (hrp : rightP p = true) (htb : timeB a = true) (han : (a == 4611686018427387904) = true) :
    Calls Try.prog 6 #[.slice A n c, .int .i64 a, .int .i64 l, .int .i64 k, .int .i64 y] w fun e w' => e = .returned (.bool true) ∧ Below w.heap.size w w' := by
  have FP := Lib.hid hr
  have HN := Lib.hid hnil
  have HC := Lib.hid hnc
  have HL : Hid (n ≤ 2000) := Lib.hid (by omega)
  have HB := Lib.hid (Below.refl w.heap.size w)
  have H_a := Lib.hid ha
  have ha1 := ha.1
  have ha2 := ha.2
  have H_l := Lib.hid hl
  have hl1 := hl.1
  have hl2 := hl.2
  have H_k := Lib.hid hk
  have hk1 := hk.1
  have hk2 := hk.2
  have H_y := Lib.hid hy
  have hy1 := hy.1
  have hy2 := hy.2
  have HT := Lib.hid ht
  have HRP := Lib.hid hrp
  have HTB := Lib.hid htb
  clear hr hnil hnc ha hl hk hy ht hrp htb
  go_enter Try.func6, Try.ntmps6
  go_wp2_with fail
  refine (stepAwake_any H _).mono ?_
  rintro e w1 ⟨rfl, hb1⟩
  have hBz := HB.out.size
  have HB2 := Lib.hid (HB.out.trans (hb1.mono hBz))
  clear HB hBz
  have HB := HB2
  clear HB2
  have FP2 := Lib.hid (FP.out.next hb1)
  clear FP
  have FP := FP2
  clear FP2
  clear hb1
  go_wp2_with fail
  refine (calls_first (H.first _ _ _ _ a l k _ FP.out HL.out H_a.out H_l.out H_k.out) HT.out).mono ?_
  rintro e w2 ⟨rfl, hb2⟩
  have hBz := HB.out.size
  have HB2 := Lib.hid (HB.out.trans (hb2.mono hBz))
  clear HB hBz
  have HB := HB2
  clear HB2
  have FP2 := Lib.hid (FP.out.next hb2)
  clear FP
  have FP := FP2
  clear FP2
  clear hb2
  go_wp2_with fail
  refine (calls_bool (H.right _ _ _ _ _ FP.out HL.out) HRP.out).mono ?_
  rintro e w3 ⟨rfl, hb3⟩
  have hBz := HB.out.size
  have HB2 := Lib.hid (HB.out.trans (hb3.mono hBz))
  clear HB hBz
  have HB := HB2
  clear HB2
  have FP2 := Lib.hid (FP.out.next hb3)
  clear FP
  have FP := FP2
  clear FP2
  clear hb3
  go_wp2_with fail
  refine (calls_bool (H.time a _ H_a.out) HTB.out).mono ?_
  rintro e w4 ⟨rfl, hb4⟩
  have hBz := HB.out.size
  have HB2 := Lib.hid (HB.out.trans (hb4.mono hBz))
  clear HB hBz
  have HB := HB2
  clear HB2
  have FP2 := Lib.hid (FP.out.next hb4)
  clear FP
  have FP := FP2
  clear FP2
  clear hb4
  go_wp2
  go_ret
  exact ⟨rfl, HB.out⟩

set_option maxRecDepth 100000 in
set_option maxHeartbeats 8000000 in
theorem holds_short (H : StepOk) (A : Option Addr) (n c : Nat) (p : List (Int × Int)) (a l k y : Int) (w : World) (hr : RS w w.heap.size A n p) (hnil : A = none → c = 0) (hnc : n ≤ c) (hn2 : n ≤ 200) (ha : I64 a) (hl : I64 l) (hk : I64 k) (hy : I64 y) (ht : firstR p a l k = (0, false)) (hrp : rightP p = true) (htb : timeB a = true) (han : (a == 4611686018427387904) = false) (hl0 : l < 1) :
    Calls Try.prog 6 #[.slice A n c, .int .i64 a, .int .i64 l, .int .i64 k, .int .i64 y] w fun e w' => e = .returned (.bool true) ∧ Below w.heap.size w w' := by
  have FP := Lib.hid hr
  have HN := Lib.hid hnil
  have HC := Lib.hid hnc
  have HL : Hid (n ≤ 2000) := Lib.hid (by omega)
  have HB := Lib.hid (Below.refl w.heap.size w)
  have H_a := Lib.hid ha
  have ha1 := ha.1
  have ha2 := ha.2
  have H_l := Lib.hid hl
  have hl1 := hl.1
  have hl2 := hl.2
  have H_k := Lib.hid hk
  have hk1 := hk.1
  have hk2 := hk.2
  have H_y := Lib.hid hy
  have hy1 := hy.1
  have hy2 := hy.2
  have HT := Lib.hid ht
  have HRP := Lib.hid hrp
  have HTB := Lib.hid htb
  clear hr hnil hnc ha hl hk hy ht hrp htb
  go_enter Try.func6, Try.ntmps6
  go_wp2_with fail
  refine (stepAwake_any H _).mono ?_
  rintro e w1 ⟨rfl, hb1⟩
  have hBz := HB.out.size
  have HB2 := Lib.hid (HB.out.trans (hb1.mono hBz))
  clear HB hBz
  have HB := HB2
  clear HB2
  have FP2 := Lib.hid (FP.out.next hb1)
  clear FP
  have FP := FP2
  clear FP2
  clear hb1
  go_wp2_with fail
  refine (calls_first (H.first _ _ _ _ a l k _ FP.out HL.out H_a.out H_l.out H_k.out) HT.out).mono ?_
  rintro e w2 ⟨rfl, hb2⟩
  have hBz := HB.out.size
  have HB2 := Lib.hid (HB.out.trans (hb2.mono hBz))
  clear HB hBz
  have HB := HB2
  clear HB2
  have FP2 := Lib.hid (FP.out.next hb2)
  clear FP
  have FP := FP2
  clear FP2
  clear hb2
  go_wp2_with fail
  refine (calls_bool (H.right _ _ _ _ _ FP.out HL.out) HRP.out).mono ?_
  rintro e w3 ⟨rfl, hb3⟩
  have hBz := HB.out.size
  have HB2 := Lib.hid (HB.out.trans (hb3.mono hBz))
  clear HB hBz
  have HB := HB2
  clear HB2
  have FP2 := Lib.hid (FP.out.next hb3)
  clear FP
  have FP := FP2
  clear FP2
  clear hb3
  go_wp2_with fail
  refine (calls_bool (H.time a _ H_a.out) HTB.out).mono ?_
  rintro e w4 ⟨rfl, hb4⟩
  have hBz := HB.out.size
  have HB2 := Lib.hid (HB.out.trans (hb4.mono hBz))
  clear HB hBz
  have HB := HB2
  clear HB2
  have FP2 := Lib.hid (FP.out.next hb4)
  clear FP
  have FP := FP2
  clear FP2
  clear hb4
  go_wp2
  go_ret
  exact ⟨rfl, HB.out⟩

set_option maxRecDepth 100000 in
set_option maxHeartbeats 8000000 in
theorem holds_neg (H : StepOk) (A : Option Addr) (n c : Nat) (p : List (Int × Int)) (a l k y : Int) (w : World) (hr : RS w w.heap.size A n p) (hnil : A = none → c = 0) (hnc : n ≤ c) (hn2 : n ≤ 200) (ha : I64 a) (hl : I64 l) (hk : I64 k) (hy : I64 y) (ht : firstR p a l k = (0, false)) (hrp : rightP p = true) (htb : timeB a = true) (han : (a == 4611686018427387904) = false) (hl0 : ¬ l < 1) (hk0 : k < 0) :
    Calls Try.prog 6 #[.slice A n c, .int .i64 a, .int .i64 l, .int .i64 k, .int .i64 y] w fun e w' => e = .returned (.bool true) ∧ Below w.heap.size w w' := by
  have FP := Lib.hid hr
  have HN := Lib.hid hnil
  have HC := Lib.hid hnc
  have HL : Hid (n ≤ 2000) := Lib.hid (by omega)
  have HB := Lib.hid (Below.refl w.heap.size w)
  have H_a := Lib.hid ha
  have ha1 := ha.1
  have ha2 := ha.2
  have H_l := Lib.hid hl
  have hl1 := hl.1
  have hl2 := hl.2
  have H_k := Lib.hid hk
  have hk1 := hk.1
  have hk2 := hk.2
  have H_y := Lib.hid hy
  have hy1 := hy.1
  have hy2 := hy.2
  have HT := Lib.hid ht
  have HRP := Lib.hid hrp
  have HTB := Lib.hid htb
  clear hr hnil hnc ha hl hk hy ht hrp htb
  go_enter Try.func6, Try.ntmps6
  go_wp2_with fail
  refine (stepAwake_any H _).mono ?_
  rintro e w1 ⟨rfl, hb1⟩
  have hBz := HB.out.size
  have HB2 := Lib.hid (HB.out.trans (hb1.mono hBz))
  clear HB hBz
  have HB := HB2
  clear HB2
  have FP2 := Lib.hid (FP.out.next hb1)
  clear FP
  have FP := FP2
  clear FP2
  clear hb1
  go_wp2_with fail
  refine (calls_first (H.first _ _ _ _ a l k _ FP.out HL.out H_a.out H_l.out H_k.out) HT.out).mono ?_
  rintro e w2 ⟨rfl, hb2⟩
  have hBz := HB.out.size
  have HB2 := Lib.hid (HB.out.trans (hb2.mono hBz))
  clear HB hBz
  have HB := HB2
  clear HB2
  have FP2 := Lib.hid (FP.out.next hb2)
  clear FP
  have FP := FP2
  clear FP2
  clear hb2
  go_wp2_with fail
  refine (calls_bool (H.right _ _ _ _ _ FP.out HL.out) HRP.out).mono ?_
  rintro e w3 ⟨rfl, hb3⟩
  have hBz := HB.out.size
  have HB2 := Lib.hid (HB.out.trans (hb3.mono hBz))
  clear HB hBz
  have HB := HB2
  clear HB2
  have FP2 := Lib.hid (FP.out.next hb3)
  clear FP
  have FP := FP2
  clear FP2
  clear hb3
  go_wp2_with fail
  refine (calls_bool (H.time a _ H_a.out) HTB.out).mono ?_
  rintro e w4 ⟨rfl, hb4⟩
  have hBz := HB.out.size
  have HB2 := Lib.hid (HB.out.trans (hb4.mono hBz))
  clear HB hBz
  have HB := HB2
  clear HB2
  have FP2 := Lib.hid (FP.out.next hb4)
  clear FP
  have FP := FP2
  clear FP2
  clear hb4
  go_wp2
  go_ret
  exact ⟨rfl, HB.out⟩

set_option maxRecDepth 100000 in
set_option maxHeartbeats 8000000 in
theorem holds_big (H : StepOk) (A : Option Addr) (n c : Nat) (p : List (Int × Int)) (a l k y : Int) (w : World) (hr : RS w w.heap.size A n p) (hnil : A = none → c = 0) (hnc : n ≤ c) (hn2 : n ≤ 200) (ha : I64 a) (hl : I64 l) (hk : I64 k) (hy : I64 y) (ht : firstR p a l k = (0, false)) (hrp : rightP p = true) (htb : timeB a = true) (han : (a == 4611686018427387904) = false) (hl0 : ¬ l < 1) (hk0 : ¬ k < 0) (hk9 : 1048576 < k) :
    Calls Try.prog 6 #[.slice A n c, .int .i64 a, .int .i64 l, .int .i64 k, .int .i64 y] w fun e w' => e = .returned (.bool true) ∧ Below w.heap.size w w' := by
  have FP := Lib.hid hr
  have HN := Lib.hid hnil
  have HC := Lib.hid hnc
  have HL : Hid (n ≤ 2000) := Lib.hid (by omega)
  have HB := Lib.hid (Below.refl w.heap.size w)
  have H_a := Lib.hid ha
  have ha1 := ha.1
  have ha2 := ha.2
  have H_l := Lib.hid hl
  have hl1 := hl.1
  have hl2 := hl.2
  have H_k := Lib.hid hk
  have hk1 := hk.1
  have hk2 := hk.2
  have H_y := Lib.hid hy
  have hy1 := hy.1
  have hy2 := hy.2
  have HT := Lib.hid ht
  have HRP := Lib.hid hrp
  have HTB := Lib.hid htb
  clear hr hnil hnc ha hl hk hy ht hrp htb
  go_enter Try.func6, Try.ntmps6
  go_wp2_with fail
  refine (stepAwake_any H _).mono ?_
  rintro e w1 ⟨rfl, hb1⟩
  have hBz := HB.out.size
  have HB2 := Lib.hid (HB.out.trans (hb1.mono hBz))
  clear HB hBz
  have HB := HB2
  clear HB2
  have FP2 := Lib.hid (FP.out.next hb1)
  clear FP
  have FP := FP2
  clear FP2
  clear hb1
  go_wp2_with fail
  refine (calls_first (H.first _ _ _ _ a l k _ FP.out HL.out H_a.out H_l.out H_k.out) HT.out).mono ?_
  rintro e w2 ⟨rfl, hb2⟩
  have hBz := HB.out.size
  have HB2 := Lib.hid (HB.out.trans (hb2.mono hBz))
  clear HB hBz
  have HB := HB2
  clear HB2
  have FP2 := Lib.hid (FP.out.next hb2)
  clear FP
  have FP := FP2
  clear FP2
  clear hb2
  go_wp2_with fail
  refine (calls_bool (H.right _ _ _ _ _ FP.out HL.out) HRP.out).mono ?_
  rintro e w3 ⟨rfl, hb3⟩
  have hBz := HB.out.size
  have HB2 := Lib.hid (HB.out.trans (hb3.mono hBz))
  clear HB hBz
  have HB := HB2
  clear HB2
  have FP2 := Lib.hid (FP.out.next hb3)
  clear FP
  have FP := FP2
  clear FP2
  clear hb3
  go_wp2_with fail
  refine (calls_bool (H.time a _ H_a.out) HTB.out).mono ?_
  rintro e w4 ⟨rfl, hb4⟩
  have hBz := HB.out.size
  have HB2 := Lib.hid (HB.out.trans (hb4.mono hBz))
  clear HB hBz
  have HB := HB2
  clear HB2
  have FP2 := Lib.hid (FP.out.next hb4)
  clear FP
  have FP := FP2
  clear FP2
  clear hb4
  go_wp2
  go_ret
  exact ⟨rfl, HB.out⟩

set_option maxRecDepth 100000 in
set_option maxHeartbeats 8000000 in
theorem holds_f_low (H : StepOk) (A : Option Addr) (n c : Nat) (p : List (Int × Int)) (a l k y : Int) (w : World) (hr : RS w w.heap.size A n p) (hnil : A = none → c = 0) (hnc : n ≤ c) (hn2 : n ≤ 200) (ha : I64 a) (hl : I64 l) (hk : I64 k) (hy : I64 y) (hrp : rightP p = true) (htb : timeB a = true) (han : (a == 4611686018427387904) = false) (hl0 : ¬ l < 1) (hk0 : ¬ k < 0) (hk9 : ¬ 1048576 < k) (t m : Int) (ht : firstR p a l k = (t, true)) (hti : I64 t) (hlt : leastE p t (plusZ t l) = (m, 0)) (hm : ¬ m < k) (hta : ¬ t < a) (htn : ¬ 4611686018427387904 ≤ t) (hy0 : y < a) :
    Calls Try.prog 6 #[.slice A n c, .int .i64 a, .int .i64 l, .int .i64 k, .int .i64 y] w fun e w' => e = .returned (.bool true) ∧ Below w.heap.size w w' := by
  have FP := Lib.hid hr
  have HN := Lib.hid hnil
  have HC := Lib.hid hnc
  have HL : Hid (n ≤ 2000) := Lib.hid (by omega)
  have HB := Lib.hid (Below.refl w.heap.size w)
  have H_a := Lib.hid ha
  have ha1 := ha.1
  have ha2 := ha.2
  have H_l := Lib.hid hl
  have hl1 := hl.1
  have hl2 := hl.2
  have H_k := Lib.hid hk
  have hk1 := hk.1
  have hk2 := hk.2
  have H_y := Lib.hid hy
  have hy1 := hy.1
  have hy2 := hy.2
  have HT := Lib.hid ht
  have HRP := Lib.hid hrp
  have HTB := Lib.hid htb
  have HTI := Lib.hid hti
  have HLT := Lib.hid hlt
  clear hr hnil hnc ha hl hk hy ht hrp htb hti hlt
  go_enter Try.func6, Try.ntmps6
  go_wp2_with fail
  refine (stepAwake_any H _).mono ?_
  rintro e w1 ⟨rfl, hb1⟩
  have hBz := HB.out.size
  have HB2 := Lib.hid (HB.out.trans (hb1.mono hBz))
  clear HB hBz
  have HB := HB2
  clear HB2
  have FP2 := Lib.hid (FP.out.next hb1)
  clear FP
  have FP := FP2
  clear FP2
  clear hb1
  go_wp2_with fail
  refine (calls_first (H.first _ _ _ _ a l k _ FP.out HL.out H_a.out H_l.out H_k.out) HT.out).mono ?_
  rintro e w2 ⟨rfl, hb2⟩
  have hBz := HB.out.size
  have HB2 := Lib.hid (HB.out.trans (hb2.mono hBz))
  clear HB hBz
  have HB := HB2
  clear HB2
  have FP2 := Lib.hid (FP.out.next hb2)
  clear FP
  have FP := FP2
  clear FP2
  clear hb2
  go_wp2_with fail
  refine (calls_bool (H.right _ _ _ _ _ FP.out HL.out) HRP.out).mono ?_
  rintro e w3 ⟨rfl, hb3⟩
  have hBz := HB.out.size
  have HB2 := Lib.hid (HB.out.trans (hb3.mono hBz))
  clear HB hBz
  have HB := HB2
  clear HB2
  have FP2 := Lib.hid (FP.out.next hb3)
  clear FP
  have FP := FP2
  clear FP2
  clear hb3
  go_wp2_with fail
  refine (calls_bool (H.time a _ H_a.out) HTB.out).mono ?_
  rintro e w4 ⟨rfl, hb4⟩
  have hBz := HB.out.size
  have HB2 := Lib.hid (HB.out.trans (hb4.mono hBz))
  clear HB hBz
  have HB := HB2
  clear HB2
  have FP2 := Lib.hid (FP.out.next hb4)
  clear FP
  have FP := FP2
  clear FP2
  clear hb4
  go_wp2_with fail
  refine (H.plus t l _ HTI.out H_l.out).mono ?_
  rintro e w5 ⟨rfl, hb5⟩
  have hBz := HB.out.size
  have HB2 := Lib.hid (HB.out.trans (hb5.mono hBz))
  clear HB hBz
  have HB := HB2
  clear HB2
  have FP2 := Lib.hid (FP.out.next hb5)
  clear FP
  have FP := FP2
  clear FP2
  clear hb5
  go_wp2_with fail
  refine (calls_pair (H.least _ _ _ _ t (plusZ t l) _ FP.out HC.out HL.out HTI.out (plusZ_i64 t l)) HLT.out).mono ?_
  rintro e w6 ⟨rfl, hb6⟩
  have hBz := HB.out.size
  have HB2 := Lib.hid (HB.out.trans (hb6.mono hBz))
  clear HB hBz
  have HB := HB2
  clear HB2
  have FP2 := Lib.hid (FP.out.next hb6)
  clear FP
  have FP := FP2
  clear FP2
  clear hb6
  go_wp2
  go_ret
  exact ⟨rfl, HB.out⟩

set_option maxRecDepth 100000 in
set_option maxHeartbeats 8000000 in
theorem holds_f_high (H : StepOk) (A : Option Addr) (n c : Nat) (p : List (Int × Int)) (a l k y : Int) (w : World) (hr : RS w w.heap.size A n p) (hnil : A = none → c = 0) (hnc : n ≤ c) (hn2 : n ≤ 200) (ha : I64 a) (hl : I64 l) (hk : I64 k) (hy : I64 y) (hrp : rightP p = true) (htb : timeB a = true) (han : (a == 4611686018427387904) = false) (hl0 : ¬ l < 1) (hk0 : ¬ k < 0) (hk9 : ¬ 1048576 < k) (t m : Int) (ht : firstR p a l k = (t, true)) (hti : I64 t) (hlt : leastE p t (plusZ t l) = (m, 0)) (hm : ¬ m < k) (hta : ¬ t < a) (htn : ¬ 4611686018427387904 ≤ t) (hy0 : ¬ y < a) (hy9 : 4611686018427387904 ≤ y) :
    Calls Try.prog 6 #[.slice A n c, .int .i64 a, .int .i64 l, .int .i64 k, .int .i64 y] w fun e w' => e = .returned (.bool true) ∧ Below w.heap.size w w' := by
  have FP := Lib.hid hr
  have HN := Lib.hid hnil
  have HC := Lib.hid hnc
  have HL : Hid (n ≤ 2000) := Lib.hid (by omega)
  have HB := Lib.hid (Below.refl w.heap.size w)
  have H_a := Lib.hid ha
  have ha1 := ha.1
  have ha2 := ha.2
  have H_l := Lib.hid hl
  have hl1 := hl.1
  have hl2 := hl.2
  have H_k := Lib.hid hk
  have hk1 := hk.1
  have hk2 := hk.2
  have H_y := Lib.hid hy
  have hy1 := hy.1
  have hy2 := hy.2
  have HT := Lib.hid ht
  have HRP := Lib.hid hrp
  have HTB := Lib.hid htb
  have HTI := Lib.hid hti
  have HLT := Lib.hid hlt
  clear hr hnil hnc ha hl hk hy ht hrp htb hti hlt
  go_enter Try.func6, Try.ntmps6
  go_wp2_with fail
  refine (stepAwake_any H _).mono ?_
  rintro e w1 ⟨rfl, hb1⟩
  have hBz := HB.out.size
  have HB2 := Lib.hid (HB.out.trans (hb1.mono hBz))
  clear HB hBz
  have HB := HB2
  clear HB2
  have FP2 := Lib.hid (FP.out.next hb1)
  clear FP
  have FP := FP2
  clear FP2
  clear hb1
  go_wp2_with fail
  refine (calls_first (H.first _ _ _ _ a l k _ FP.out HL.out H_a.out H_l.out H_k.out) HT.out).mono ?_
  rintro e w2 ⟨rfl, hb2⟩
  have hBz := HB.out.size
  have HB2 := Lib.hid (HB.out.trans (hb2.mono hBz))
  clear HB hBz
  have HB := HB2
  clear HB2
  have FP2 := Lib.hid (FP.out.next hb2)
  clear FP
  have FP := FP2
  clear FP2
  clear hb2
  go_wp2_with fail
  refine (calls_bool (H.right _ _ _ _ _ FP.out HL.out) HRP.out).mono ?_
  rintro e w3 ⟨rfl, hb3⟩
  have hBz := HB.out.size
  have HB2 := Lib.hid (HB.out.trans (hb3.mono hBz))
  clear HB hBz
  have HB := HB2
  clear HB2
  have FP2 := Lib.hid (FP.out.next hb3)
  clear FP
  have FP := FP2
  clear FP2
  clear hb3
  go_wp2_with fail
  refine (calls_bool (H.time a _ H_a.out) HTB.out).mono ?_
  rintro e w4 ⟨rfl, hb4⟩
  have hBz := HB.out.size
  have HB2 := Lib.hid (HB.out.trans (hb4.mono hBz))
  clear HB hBz
  have HB := HB2
  clear HB2
  have FP2 := Lib.hid (FP.out.next hb4)
  clear FP
  have FP := FP2
  clear FP2
  clear hb4
  go_wp2_with fail
  refine (H.plus t l _ HTI.out H_l.out).mono ?_
  rintro e w5 ⟨rfl, hb5⟩
  have hBz := HB.out.size
  have HB2 := Lib.hid (HB.out.trans (hb5.mono hBz))
  clear HB hBz
  have HB := HB2
  clear HB2
  have FP2 := Lib.hid (FP.out.next hb5)
  clear FP
  have FP := FP2
  clear FP2
  clear hb5
  go_wp2_with fail
  refine (calls_pair (H.least _ _ _ _ t (plusZ t l) _ FP.out HC.out HL.out HTI.out (plusZ_i64 t l)) HLT.out).mono ?_
  rintro e w6 ⟨rfl, hb6⟩
  have hBz := HB.out.size
  have HB2 := Lib.hid (HB.out.trans (hb6.mono hBz))
  clear HB hBz
  have HB := HB2
  clear HB2
  have FP2 := Lib.hid (FP.out.next hb6)
  clear FP
  have FP := FP2
  clear FP2
  clear hb6
  go_wp2
  go_ret
  exact ⟨rfl, HB.out⟩

set_option maxRecDepth 100000 in
set_option maxHeartbeats 8000000 in
theorem holds_f_late (H : StepOk) (A : Option Addr) (n c : Nat) (p : List (Int × Int)) (a l k y : Int) (w : World) (hr : RS w w.heap.size A n p) (hnil : A = none → c = 0) (hnc : n ≤ c) (hn2 : n ≤ 200) (ha : I64 a) (hl : I64 l) (hk : I64 k) (hy : I64 y) (hrp : rightP p = true) (htb : timeB a = true) (han : (a == 4611686018427387904) = false) (hl0 : ¬ l < 1) (hk0 : ¬ k < 0) (hk9 : ¬ 1048576 < k) (t m : Int) (ht : firstR p a l k = (t, true)) (hti : I64 t) (hlt : leastE p t (plusZ t l) = (m, 0)) (hm : ¬ m < k) (hta : ¬ t < a) (htn : ¬ 4611686018427387904 ≤ t) (hy0 : ¬ y < a) (hy9 : ¬ 4611686018427387904 ≤ y) (hyt : t ≤ y) :
    Calls Try.prog 6 #[.slice A n c, .int .i64 a, .int .i64 l, .int .i64 k, .int .i64 y] w fun e w' => e = .returned (.bool true) ∧ Below w.heap.size w w' := by
  have FP := Lib.hid hr
  have HN := Lib.hid hnil
  have HC := Lib.hid hnc
  have HL : Hid (n ≤ 2000) := Lib.hid (by omega)
  have HB := Lib.hid (Below.refl w.heap.size w)
  have H_a := Lib.hid ha
  have ha1 := ha.1
  have ha2 := ha.2
  have H_l := Lib.hid hl
  have hl1 := hl.1
  have hl2 := hl.2
  have H_k := Lib.hid hk
  have hk1 := hk.1
  have hk2 := hk.2
  have H_y := Lib.hid hy
  have hy1 := hy.1
  have hy2 := hy.2
  have HT := Lib.hid ht
  have HRP := Lib.hid hrp
  have HTB := Lib.hid htb
  have HTI := Lib.hid hti
  have HLT := Lib.hid hlt
  clear hr hnil hnc ha hl hk hy ht hrp htb hti hlt
  go_enter Try.func6, Try.ntmps6
  go_wp2_with fail
  refine (stepAwake_any H _).mono ?_
  rintro e w1 ⟨rfl, hb1⟩
  have hBz := HB.out.size
  have HB2 := Lib.hid (HB.out.trans (hb1.mono hBz))
  clear HB hBz
  have HB := HB2
  clear HB2
  have FP2 := Lib.hid (FP.out.next hb1)
  clear FP
  have FP := FP2
  clear FP2
  clear hb1
  go_wp2_with fail
  refine (calls_first (H.first _ _ _ _ a l k _ FP.out HL.out H_a.out H_l.out H_k.out) HT.out).mono ?_
  rintro e w2 ⟨rfl, hb2⟩
  have hBz := HB.out.size
  have HB2 := Lib.hid (HB.out.trans (hb2.mono hBz))
  clear HB hBz
  have HB := HB2
  clear HB2
  have FP2 := Lib.hid (FP.out.next hb2)
  clear FP
  have FP := FP2
  clear FP2
  clear hb2
  go_wp2_with fail
  refine (calls_bool (H.right _ _ _ _ _ FP.out HL.out) HRP.out).mono ?_
  rintro e w3 ⟨rfl, hb3⟩
  have hBz := HB.out.size
  have HB2 := Lib.hid (HB.out.trans (hb3.mono hBz))
  clear HB hBz
  have HB := HB2
  clear HB2
  have FP2 := Lib.hid (FP.out.next hb3)
  clear FP
  have FP := FP2
  clear FP2
  clear hb3
  go_wp2_with fail
  refine (calls_bool (H.time a _ H_a.out) HTB.out).mono ?_
  rintro e w4 ⟨rfl, hb4⟩
  have hBz := HB.out.size
  have HB2 := Lib.hid (HB.out.trans (hb4.mono hBz))
  clear HB hBz
  have HB := HB2
  clear HB2
  have FP2 := Lib.hid (FP.out.next hb4)
  clear FP
  have FP := FP2
  clear FP2
  clear hb4
  go_wp2_with fail
  refine (H.plus t l _ HTI.out H_l.out).mono ?_
  rintro e w5 ⟨rfl, hb5⟩
  have hBz := HB.out.size
  have HB2 := Lib.hid (HB.out.trans (hb5.mono hBz))
  clear HB hBz
  have HB := HB2
  clear HB2
  have FP2 := Lib.hid (FP.out.next hb5)
  clear FP
  have FP := FP2
  clear FP2
  clear hb5
  go_wp2_with fail
  refine (calls_pair (H.least _ _ _ _ t (plusZ t l) _ FP.out HC.out HL.out HTI.out (plusZ_i64 t l)) HLT.out).mono ?_
  rintro e w6 ⟨rfl, hb6⟩
  have hBz := HB.out.size
  have HB2 := Lib.hid (HB.out.trans (hb6.mono hBz))
  clear HB hBz
  have HB := HB2
  clear HB2
  have FP2 := Lib.hid (FP.out.next hb6)
  clear FP
  have FP := FP2
  clear FP2
  clear hb6
  go_wp2
  go_ret
  exact ⟨rfl, HB.out⟩

set_option maxRecDepth 100000 in
set_option maxHeartbeats 8000000 in
theorem holds_f_early (H : StepOk) (A : Option Addr) (n c : Nat) (p : List (Int × Int)) (a l k y : Int) (w : World) (hr : RS w w.heap.size A n p) (hnil : A = none → c = 0) (hnc : n ≤ c) (hn2 : n ≤ 200) (ha : I64 a) (hl : I64 l) (hk : I64 k) (hy : I64 y) (hrp : rightP p = true) (htb : timeB a = true) (han : (a == 4611686018427387904) = false) (hl0 : ¬ l < 1) (hk0 : ¬ k < 0) (hk9 : ¬ 1048576 < k) (t m : Int) (ht : firstR p a l k = (t, true)) (hti : I64 t) (hlt : leastE p t (plusZ t l) = (m, 0)) (hm : ¬ m < k) (hta : ¬ t < a) (htn : ¬ 4611686018427387904 ≤ t) (hy0 : ¬ y < a) (hy9 : ¬ 4611686018427387904 ≤ y) (hyt : ¬ t ≤ y) (z : Int) (hly : leastE p y (plusZ y l) = (z, 0)) (hz : z < k) :
    Calls Try.prog 6 #[.slice A n c, .int .i64 a, .int .i64 l, .int .i64 k, .int .i64 y] w fun e w' => e = .returned (.bool true) ∧ Below w.heap.size w w' := by
  have FP := Lib.hid hr
  have HN := Lib.hid hnil
  have HC := Lib.hid hnc
  have HL : Hid (n ≤ 2000) := Lib.hid (by omega)
  have HB := Lib.hid (Below.refl w.heap.size w)
  have H_a := Lib.hid ha
  have ha1 := ha.1
  have ha2 := ha.2
  have H_l := Lib.hid hl
  have hl1 := hl.1
  have hl2 := hl.2
  have H_k := Lib.hid hk
  have hk1 := hk.1
  have hk2 := hk.2
  have H_y := Lib.hid hy
  have hy1 := hy.1
  have hy2 := hy.2
  have HT := Lib.hid ht
  have HRP := Lib.hid hrp
  have HTB := Lib.hid htb
  have HTI := Lib.hid hti
  have HLT := Lib.hid hlt
  have HLY := Lib.hid hly
  clear hr hnil hnc ha hl hk hy ht hrp htb hti hlt hly
  go_enter Try.func6, Try.ntmps6
  go_wp2_with fail
  refine (stepAwake_any H _).mono ?_
  rintro e w1 ⟨rfl, hb1⟩
  have hBz := HB.out.size
  have HB2 := Lib.hid (HB.out.trans (hb1.mono hBz))
  clear HB hBz
  have HB := HB2
  clear HB2
  have FP2 := Lib.hid (FP.out.next hb1)
  clear FP
  have FP := FP2
  clear FP2
  clear hb1
  go_wp2_with fail
  refine (calls_first (H.first _ _ _ _ a l k _ FP.out HL.out H_a.out H_l.out H_k.out) HT.out).mono ?_
  rintro e w2 ⟨rfl, hb2⟩
  have hBz := HB.out.size
  have HB2 := Lib.hid (HB.out.trans (hb2.mono hBz))
  clear HB hBz
  have HB := HB2
  clear HB2
  have FP2 := Lib.hid (FP.out.next hb2)
  clear FP
  have FP := FP2
  clear FP2
  clear hb2
  go_wp2_with fail
  refine (calls_bool (H.right _ _ _ _ _ FP.out HL.out) HRP.out).mono ?_
  rintro e w3 ⟨rfl, hb3⟩
  have hBz := HB.out.size
  have HB2 := Lib.hid (HB.out.trans (hb3.mono hBz))
  clear HB hBz
  have HB := HB2
  clear HB2
  have FP2 := Lib.hid (FP.out.next hb3)
  clear FP
  have FP := FP2
  clear FP2
  clear hb3
  go_wp2_with fail
  refine (calls_bool (H.time a _ H_a.out) HTB.out).mono ?_
  rintro e w4 ⟨rfl, hb4⟩
  have hBz := HB.out.size
  have HB2 := Lib.hid (HB.out.trans (hb4.mono hBz))
  clear HB hBz
  have HB := HB2
  clear HB2
  have FP2 := Lib.hid (FP.out.next hb4)
  clear FP
  have FP := FP2
  clear FP2
  clear hb4
  go_wp2_with fail
  refine (H.plus t l _ HTI.out H_l.out).mono ?_
  rintro e w5 ⟨rfl, hb5⟩
  have hBz := HB.out.size
  have HB2 := Lib.hid (HB.out.trans (hb5.mono hBz))
  clear HB hBz
  have HB := HB2
  clear HB2
  have FP2 := Lib.hid (FP.out.next hb5)
  clear FP
  have FP := FP2
  clear FP2
  clear hb5
  go_wp2_with fail
  refine (calls_pair (H.least _ _ _ _ t (plusZ t l) _ FP.out HC.out HL.out HTI.out (plusZ_i64 t l)) HLT.out).mono ?_
  rintro e w6 ⟨rfl, hb6⟩
  have hBz := HB.out.size
  have HB2 := Lib.hid (HB.out.trans (hb6.mono hBz))
  clear HB hBz
  have HB := HB2
  clear HB2
  have FP2 := Lib.hid (FP.out.next hb6)
  clear FP
  have FP := FP2
  clear FP2
  clear hb6
  go_wp2_with fail
  refine (H.plus y l _ H_y.out H_l.out).mono ?_
  rintro e w7 ⟨rfl, hb7⟩
  have hBz := HB.out.size
  have HB2 := Lib.hid (HB.out.trans (hb7.mono hBz))
  clear HB hBz
  have HB := HB2
  clear HB2
  have FP2 := Lib.hid (FP.out.next hb7)
  clear FP
  have FP := FP2
  clear FP2
  clear hb7
  go_wp2_with fail
  refine (calls_pair (H.least _ _ _ _ y (plusZ y l) _ FP.out HC.out HL.out H_y.out (plusZ_i64 y l)) HLY.out).mono ?_
  rintro e w8 ⟨rfl, hb8⟩
  have hBz := HB.out.size
  have HB2 := Lib.hid (HB.out.trans (hb8.mono hBz))
  clear HB hBz
  have HB := HB2
  clear HB2
  have FP2 := Lib.hid (FP.out.next hb8)
  clear FP
  have FP := FP2
  clear FP2
  clear hb8
  go_wp2
  go_ret
  exact ⟨rfl, HB.out⟩

set_option maxRecDepth 100000 in
set_option maxHeartbeats 8000000 in
theorem holds_n_low (H : StepOk) (A : Option Addr) (n c : Nat) (p : List (Int × Int)) (a l k y : Int) (w : World) (hr : RS w w.heap.size A n p) (hnil : A = none → c = 0) (hnc : n ≤ c) (hn2 : n ≤ 200) (ha : I64 a) (hl : I64 l) (hk : I64 k) (hy : I64 y) (hrp : rightP p = true) (htb : timeB a = true) (han : (a == 4611686018427387904) = false) (hl0 : ¬ l < 1) (hk0 : ¬ k < 0) (hk9 : ¬ 1048576 < k) (ht : firstR p a l k = (0, false)) (hy0 : y < a) :
    Calls Try.prog 6 #[.slice A n c, .int .i64 a, .int .i64 l, .int .i64 k, .int .i64 y] w fun e w' => e = .returned (.bool true) ∧ Below w.heap.size w w' := by
  have FP := Lib.hid hr
  have HN := Lib.hid hnil
  have HC := Lib.hid hnc
  have HL : Hid (n ≤ 2000) := Lib.hid (by omega)
  have HB := Lib.hid (Below.refl w.heap.size w)
  have H_a := Lib.hid ha
  have ha1 := ha.1
  have ha2 := ha.2
  have H_l := Lib.hid hl
  have hl1 := hl.1
  have hl2 := hl.2
  have H_k := Lib.hid hk
  have hk1 := hk.1
  have hk2 := hk.2
  have H_y := Lib.hid hy
  have hy1 := hy.1
  have hy2 := hy.2
  have HT := Lib.hid ht
  have HRP := Lib.hid hrp
  have HTB := Lib.hid htb
  clear hr hnil hnc ha hl hk hy ht hrp htb
  go_enter Try.func6, Try.ntmps6
  go_wp2_with fail
  refine (stepAwake_any H _).mono ?_
  rintro e w1 ⟨rfl, hb1⟩
  have hBz := HB.out.size
  have HB2 := Lib.hid (HB.out.trans (hb1.mono hBz))
  clear HB hBz
  have HB := HB2
  clear HB2
  have FP2 := Lib.hid (FP.out.next hb1)
  clear FP
  have FP := FP2
  clear FP2
  clear hb1
  go_wp2_with fail
  refine (calls_first (H.first _ _ _ _ a l k _ FP.out HL.out H_a.out H_l.out H_k.out) HT.out).mono ?_
  rintro e w2 ⟨rfl, hb2⟩
  have hBz := HB.out.size
  have HB2 := Lib.hid (HB.out.trans (hb2.mono hBz))
  clear HB hBz
  have HB := HB2
  clear HB2
  have FP2 := Lib.hid (FP.out.next hb2)
  clear FP
  have FP := FP2
  clear FP2
  clear hb2
  go_wp2_with fail
  refine (calls_bool (H.right _ _ _ _ _ FP.out HL.out) HRP.out).mono ?_
  rintro e w3 ⟨rfl, hb3⟩
  have hBz := HB.out.size
  have HB2 := Lib.hid (HB.out.trans (hb3.mono hBz))
  clear HB hBz
  have HB := HB2
  clear HB2
  have FP2 := Lib.hid (FP.out.next hb3)
  clear FP
  have FP := FP2
  clear FP2
  clear hb3
  go_wp2_with fail
  refine (calls_bool (H.time a _ H_a.out) HTB.out).mono ?_
  rintro e w4 ⟨rfl, hb4⟩
  have hBz := HB.out.size
  have HB2 := Lib.hid (HB.out.trans (hb4.mono hBz))
  clear HB hBz
  have HB := HB2
  clear HB2
  have FP2 := Lib.hid (FP.out.next hb4)
  clear FP
  have FP := FP2
  clear FP2
  clear hb4
  go_wp2
  go_ret
  exact ⟨rfl, HB.out⟩

set_option maxRecDepth 100000 in
set_option maxHeartbeats 8000000 in
theorem holds_n_high (H : StepOk) (A : Option Addr) (n c : Nat) (p : List (Int × Int)) (a l k y : Int) (w : World) (hr : RS w w.heap.size A n p) (hnil : A = none → c = 0) (hnc : n ≤ c) (hn2 : n ≤ 200) (ha : I64 a) (hl : I64 l) (hk : I64 k) (hy : I64 y) (hrp : rightP p = true) (htb : timeB a = true) (han : (a == 4611686018427387904) = false) (hl0 : ¬ l < 1) (hk0 : ¬ k < 0) (hk9 : ¬ 1048576 < k) (ht : firstR p a l k = (0, false)) (hy0 : ¬ y < a) (hy9 : 4611686018427387904 ≤ y) :
    Calls Try.prog 6 #[.slice A n c, .int .i64 a, .int .i64 l, .int .i64 k, .int .i64 y] w fun e w' => e = .returned (.bool true) ∧ Below w.heap.size w w' := by
  have FP := Lib.hid hr
  have HN := Lib.hid hnil
  have HC := Lib.hid hnc
  have HL : Hid (n ≤ 2000) := Lib.hid (by omega)
  have HB := Lib.hid (Below.refl w.heap.size w)
  have H_a := Lib.hid ha
  have ha1 := ha.1
  have ha2 := ha.2
  have H_l := Lib.hid hl
  have hl1 := hl.1
  have hl2 := hl.2
  have H_k := Lib.hid hk
  have hk1 := hk.1
  have hk2 := hk.2
  have H_y := Lib.hid hy
  have hy1 := hy.1
  have hy2 := hy.2
  have HT := Lib.hid ht
  have HRP := Lib.hid hrp
  have HTB := Lib.hid htb
  clear hr hnil hnc ha hl hk hy ht hrp htb
  go_enter Try.func6, Try.ntmps6
  go_wp2_with fail
  refine (stepAwake_any H _).mono ?_
  rintro e w1 ⟨rfl, hb1⟩
  have hBz := HB.out.size
  have HB2 := Lib.hid (HB.out.trans (hb1.mono hBz))
  clear HB hBz
  have HB := HB2
  clear HB2
  have FP2 := Lib.hid (FP.out.next hb1)
  clear FP
  have FP := FP2
  clear FP2
  clear hb1
  go_wp2_with fail
  refine (calls_first (H.first _ _ _ _ a l k _ FP.out HL.out H_a.out H_l.out H_k.out) HT.out).mono ?_
  rintro e w2 ⟨rfl, hb2⟩
  have hBz := HB.out.size
  have HB2 := Lib.hid (HB.out.trans (hb2.mono hBz))
  clear HB hBz
  have HB := HB2
  clear HB2
  have FP2 := Lib.hid (FP.out.next hb2)
  clear FP
  have FP := FP2
  clear FP2
  clear hb2
  go_wp2_with fail
  refine (calls_bool (H.right _ _ _ _ _ FP.out HL.out) HRP.out).mono ?_
  rintro e w3 ⟨rfl, hb3⟩
  have hBz := HB.out.size
  have HB2 := Lib.hid (HB.out.trans (hb3.mono hBz))
  clear HB hBz
  have HB := HB2
  clear HB2
  have FP2 := Lib.hid (FP.out.next hb3)
  clear FP
  have FP := FP2
  clear FP2
  clear hb3
  go_wp2_with fail
  refine (calls_bool (H.time a _ H_a.out) HTB.out).mono ?_
  rintro e w4 ⟨rfl, hb4⟩
  have hBz := HB.out.size
  have HB2 := Lib.hid (HB.out.trans (hb4.mono hBz))
  clear HB hBz
  have HB := HB2
  clear HB2
  have FP2 := Lib.hid (FP.out.next hb4)
  clear FP
  have FP := FP2
  clear FP2
  clear hb4
  go_wp2
  go_ret
  exact ⟨rfl, HB.out⟩

set_option maxRecDepth 100000 in
set_option maxHeartbeats 8000000 in
theorem holds_n_early (H : StepOk) (A : Option Addr) (n c : Nat) (p : List (Int × Int)) (a l k y : Int) (w : World) (hr : RS w w.heap.size A n p) (hnil : A = none → c = 0) (hnc : n ≤ c) (hn2 : n ≤ 200) (ha : I64 a) (hl : I64 l) (hk : I64 k) (hy : I64 y) (hrp : rightP p = true) (htb : timeB a = true) (han : (a == 4611686018427387904) = false) (hl0 : ¬ l < 1) (hk0 : ¬ k < 0) (hk9 : ¬ 1048576 < k) (ht : firstR p a l k = (0, false)) (hy0 : ¬ y < a) (hy9 : ¬ 4611686018427387904 ≤ y) (z : Int) (hly : leastE p y (plusZ y l) = (z, 0)) (hz : z < k) :
    Calls Try.prog 6 #[.slice A n c, .int .i64 a, .int .i64 l, .int .i64 k, .int .i64 y] w fun e w' => e = .returned (.bool true) ∧ Below w.heap.size w w' := by
  have FP := Lib.hid hr
  have HN := Lib.hid hnil
  have HC := Lib.hid hnc
  have HL : Hid (n ≤ 2000) := Lib.hid (by omega)
  have HB := Lib.hid (Below.refl w.heap.size w)
  have H_a := Lib.hid ha
  have ha1 := ha.1
  have ha2 := ha.2
  have H_l := Lib.hid hl
  have hl1 := hl.1
  have hl2 := hl.2
  have H_k := Lib.hid hk
  have hk1 := hk.1
  have hk2 := hk.2
  have H_y := Lib.hid hy
  have hy1 := hy.1
  have hy2 := hy.2
  have HT := Lib.hid ht
  have HRP := Lib.hid hrp
  have HTB := Lib.hid htb
  have HLY := Lib.hid hly
  clear hr hnil hnc ha hl hk hy ht hrp htb hly
  go_enter Try.func6, Try.ntmps6
  go_wp2_with fail
  refine (stepAwake_any H _).mono ?_
  rintro e w1 ⟨rfl, hb1⟩
  have hBz := HB.out.size
  have HB2 := Lib.hid (HB.out.trans (hb1.mono hBz))
  clear HB hBz
  have HB := HB2
  clear HB2
  have FP2 := Lib.hid (FP.out.next hb1)
  clear FP
  have FP := FP2
  clear FP2
  clear hb1
  go_wp2_with fail
  refine (calls_first (H.first _ _ _ _ a l k _ FP.out HL.out H_a.out H_l.out H_k.out) HT.out).mono ?_
  rintro e w2 ⟨rfl, hb2⟩
  have hBz := HB.out.size
  have HB2 := Lib.hid (HB.out.trans (hb2.mono hBz))
  clear HB hBz
  have HB := HB2
  clear HB2
  have FP2 := Lib.hid (FP.out.next hb2)
  clear FP
  have FP := FP2
  clear FP2
  clear hb2
  go_wp2_with fail
  refine (calls_bool (H.right _ _ _ _ _ FP.out HL.out) HRP.out).mono ?_
  rintro e w3 ⟨rfl, hb3⟩
  have hBz := HB.out.size
  have HB2 := Lib.hid (HB.out.trans (hb3.mono hBz))
  clear HB hBz
  have HB := HB2
  clear HB2
  have FP2 := Lib.hid (FP.out.next hb3)
  clear FP
  have FP := FP2
  clear FP2
  clear hb3
  go_wp2_with fail
  refine (calls_bool (H.time a _ H_a.out) HTB.out).mono ?_
  rintro e w4 ⟨rfl, hb4⟩
  have hBz := HB.out.size
  have HB2 := Lib.hid (HB.out.trans (hb4.mono hBz))
  clear HB hBz
  have HB := HB2
  clear HB2
  have FP2 := Lib.hid (FP.out.next hb4)
  clear FP
  have FP := FP2
  clear FP2
  clear hb4
  go_wp2_with fail
  refine (H.plus y l _ H_y.out H_l.out).mono ?_
  rintro e w5 ⟨rfl, hb5⟩
  have hBz := HB.out.size
  have HB2 := Lib.hid (HB.out.trans (hb5.mono hBz))
  clear HB hBz
  have HB := HB2
  clear HB2
  have FP2 := Lib.hid (FP.out.next hb5)
  clear FP
  have FP := FP2
  clear FP2
  clear hb5
  go_wp2_with fail
  refine (calls_pair (H.least _ _ _ _ y (plusZ y l) _ FP.out HC.out HL.out H_y.out (plusZ_i64 y l)) HLY.out).mono ?_
  rintro e w6 ⟨rfl, hb6⟩
  have hBz := HB.out.size
  have HB2 := Lib.hid (HB.out.trans (hb6.mono hBz))
  clear HB hBz
  have HB := HB2
  clear HB2
  have FP2 := Lib.hid (FP.out.next hb6)
  clear FP
  have FP := FP2
  clear FP2
  clear hb6
  go_wp2
  go_ret
  exact ⟨rfl, HB.out⟩

theorem least_from {p : List (Int × Int)} {l k t : Int} (hp : rightP p = true) (h0 : 0 ≤ t) (h1 : t < 4611686018427387904) (hl : 1 ≤ l) :
    leastE p t (plusZ t l) = (leastL p t (plus t l), 0) ∧ (k ≤ leastL p t (plus t l) ↔ Holds p l k t) := by
  have hc := (rightP_iff p).1 hp
  have hpl := plus_lt (t := t) (long := l) h1 hl
  rw [plusZ_is h0 (by omega) hl]
  refine ⟨?_, holds_least (least_is hc.1 h0 hpl.1)⟩
  unfold leastE
  rw [if_pos ((mayP_iff _ _ _).2 ⟨hc, h0, hpl.1, hpl.2⟩)]
theorem stepHolds_walk (H : StepOk) (A : Option Addr) (n c : Nat) (p : List (Int × Int)) (a l k y : Int) (w : World) (hr : RS w w.heap.size A n p) (hnil : A = none → c = 0) (hnc : n ≤ c) (hn : n ≤ maxLen) (ha : I64 a) (hl : I64 l) (hk : I64 k) (hy : I64 y) :
    Calls Try.prog 6 #[.slice A n c, .int .i64 a, .int .i64 l, .int .i64 k, .int .i64 y] w fun e w' => e = .returned (.bool true) ∧ Below w.heap.size w w' := by
  by_cases h : 200 < n
  · exact holds_long H A n c a l k y w hn h
  have hn2 : n ≤ 200 := by omega
  cases hrp : rightP p with
  | false => exact holds_wrong H A n c p a l k y w hr hnil hnc hn2 ha hl hk hy (firstR_bad (fun h => by rw [hrp] at h; cases h.1)) hrp
  | true =>
    cases htb : timeB a with
    | false => exact holds_notime H A n c p a l k y w hr hnil hnc hn2 ha hl hk hy (firstR_bad (fun h => by unfold timeB at htb; rw [decide_eq_false_iff_not] at htb; omega)) hrp htb
    | true =>
      have hta : 0 ≤ a ∧ a ≤ 4611686018427387904 := by unfold timeB at htb; rwa [decide_eq_true_eq] at htb
      by_cases han : a = 4611686018427387904
      · exact holds_never H A n c p a l k y w hr hnil hnc hn2 ha hl hk hy (firstR_bad (fun h => by omega)) hrp htb (by simpa using han)
      have han' : (a == 4611686018427387904) = false := by simpa using han
      by_cases hl0 : l < 1
      · exact holds_short H A n c p a l k y w hr hnil hnc hn2 ha hl hk hy (firstR_bad (fun h => by omega)) hrp htb han' hl0
      by_cases hk0 : k < 0
      · exact holds_neg H A n c p a l k y w hr hnil hnc hn2 ha hl hk hy (firstR_bad (fun h => by omega)) hrp htb han' hl0 hk0
      by_cases hk9 : 1048576 < k
      · exact holds_big H A n c p a l k y w hr hnil hnc hn2 ha hl hk hy (firstR_bad (fun h => by omega)) hrp htb han' hl0 hk0 hk9
      rcases firstR_is hrp hta.1 (by omega) (show 1 ≤ l by omega) (show 0 ≤ k by omega) (show k ≤ 1048576 by omega) with ⟨t, ht, h1, h2, h3, h4⟩ | ⟨ht, h4⟩
      · have htN : t < 4611686018427387904 := h2
        obtain ⟨e1, e2⟩ := least_from (k := k) hrp (show 0 ≤ t by omega) htN (show 1 ≤ l by omega)
        have hm := e2.2 h3
        have hti : I64 t := ⟨by omega, by omega⟩
        by_cases hy0 : y < a
        · exact holds_f_low H A n c p a l k y w hr hnil hnc hn2 ha hl hk hy hrp htb han' hl0 hk0 hk9 t _ ht hti e1 (by omega) (by omega) (by omega) hy0
        by_cases hy9 : 4611686018427387904 ≤ y
        · exact holds_f_high H A n c p a l k y w hr hnil hnc hn2 ha hl hk hy hrp htb han' hl0 hk0 hk9 t _ ht hti e1 (by omega) (by omega) (by omega) hy0 hy9
        by_cases hyt : t ≤ y
        · exact holds_f_late H A n c p a l k y w hr hnil hnc hn2 ha hl hk hy hrp htb han' hl0 hk0 hk9 t _ ht hti e1 (by omega) (by omega) (by omega) hy0 hy9 hyt
        · obtain ⟨e3, e4⟩ := least_from (k := k) hrp (show 0 ≤ y by omega) (by omega) (show 1 ≤ l by omega)
          have hz : leastL p y (plus y l) < k := by
            have := h4 y (by omega) (by omega)
            rw [← e4] at this
            omega
          exact holds_f_early H A n c p a l k y w hr hnil hnc hn2 ha hl hk hy hrp htb han' hl0 hk0 hk9 t _ ht hti e1 (by omega) (by omega) (by omega) hy0 hy9 hyt _ e3 hz
      · by_cases hy0 : y < a
        · exact holds_n_low H A n c p a l k y w hr hnil hnc hn2 ha hl hk hy hrp htb han' hl0 hk0 hk9 ht hy0
        by_cases hy9 : 4611686018427387904 ≤ y
        · exact holds_n_high H A n c p a l k y w hr hnil hnc hn2 ha hl hk hy hrp htb han' hl0 hk0 hk9 ht hy0 hy9
        · obtain ⟨e3, e4⟩ := least_from (k := k) hrp (show 0 ≤ y by omega) (by omega) (show 1 ≤ l by omega)
          have hz : leastL p y (plus y l) < k := by
            have := h4 y (by omega) (by unfold NEVER; omega)
            rw [← e4] at this
            omega
          exact holds_n_early H A n c p a l k y w hr hnil hnc hn2 ha hl hk hy hrp htb han' hl0 hk0 hk9 ht hy0 hy9 _ e3 hz

end Go.Proofs.Ytiilnacfdgmfcaa
