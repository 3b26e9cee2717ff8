/- The statement StepTakes, as a walk over the contracts: of any profile, span, number and time the call returns true. -/
import Derived.Test.YtiilnacfdgmfcaaStepAwake
import Derived.Test.YtiilnacfdgmfcaaStepLaws
namespace Go.Proofs.Ytiilnacfdgmfcaa
open Go.RowKit

set_option maxRecDepth 100000 in
theorem takes_long (H : StepOk) (A : Option Addr) (n c : Nat) (a b k t : Int) (w : World) (hn : n ≤ maxLen) (hl : 200 < n) :
    Calls Try.prog 5 #[.slice A n c, .int .i64 a, .int .i64 b, .int .i64 k, .int .i64 t] w fun e w' => e = .returned (.bool true) ∧ Below w.heap.size w w' := by
  unfold maxLen at hn
  go_enter Try.func5, Try.ntmps5
  go_wp2_with fail
  refine (stepAwake_any H _).mono ?_
  rintro e w1 ⟨rfl, hb1⟩
  go_wp2
  go_ret
  exact ⟨rfl, hb1⟩
set_option maxRecDepth 100000 in
set_option maxHeartbeats 8000000 in
theorem takes_no (H : StepOk) (A : Option Addr) (n c : Nat) (p : List (Int × Int)) (a b k t : Int) (w : World) (hr : RS w w.heap.size A n p) (hnil : A = none → c = 0) (hnc : n ≤ c) (hn2 : n ≤ 200) (ha : I64 a) (hb : I64 b) (hk : I64 k) (ht' : I64 t) (er : Int) (ht : takeR p a b k = (p, er)) (her : (er != 0) = true) :
    Calls Try.prog 5 #[.slice A n c, .int .i64 a, .int .i64 b, .int .i64 k, .int .i64 t] w fun e w' => e = .returned (.bool true) ∧ Below w.heap.size w w' := by
  have FP := Lib.hid hr
  have HN := Lib.hid hnil
  have HC := Lib.hid hnc
  have HL : Hid (n ≤ 2000) := Lib.hid (by omega)
  have HB := Lib.hid (Below.refl w.heap.size w)
  have H_a := Lib.hid ha
  have ha1 := ha.1
  have ha2 := ha.2
  have H_b := Lib.hid hb
  have hb1 := hb.1
  have hb2 := hb.2
  have H_k := Lib.hid hk
  have hk1 := hk.1
  have hk2 := hk.2
  have H_t := Lib.hid ht'
  have ht1 := ht'.1
  have ht2 := ht'.2
  have HT := Lib.hid ht
  clear hr hnil hnc ha hb hk ht' ht
  go_enter Try.func5, Try.ntmps5
  go_wp2_with fail
  refine (stepAwake_any H _).mono ?_
  rintro e w1 ⟨rfl, hb1⟩
  have hBz := HB.out.size
  have HB2 := Lib.hid (HB.out.trans (hb1.mono hBz))
  clear HB hBz
  have HB := HB2
  clear HB2
  have FP2 := Lib.hid (FP.out.next hb1)
  clear FP
  have FP := FP2
  clear FP2
  clear hb1
  go_wp2_with fail
  refine (calls_spost (H.take _ _ _ _ a b k _ FP.out HN.out HC.out HL.out H_a.out H_b.out H_k.out) HT.out).mono ?_
  rintro e w2 ⟨⟨A2, c2, rfl, hr2, hnil2, hc2⟩, hb2⟩
  have hBz := HB.out.size
  have HB2 := Lib.hid (HB.out.trans (hb2.mono hBz))
  clear HB hBz
  have HB := HB2
  clear HB2
  have FP2 := Lib.hid (FP.out.next hb2)
  clear FP
  have FP := FP2
  clear FP2
  clear hb2
  have F1 := Lib.hid hr2
  have F1c := Lib.hid hc2
  have F1z := Lib.hid hnil2
  clear hr2 hc2 hnil2
  go_wp2_with fail
  refine (s_same FP.out F1.out HL.out (by have := FP.out.1; have := HL.out; omega) rfl).mono ?_
  rintro e w3 ⟨rfl, hb3⟩
  have hBz := HB.out.size
  have HB2 := Lib.hid (HB.out.trans (hb3.mono hBz))
  clear HB hBz
  have HB := HB2
  clear HB2
  have FP2 := Lib.hid (FP.out.next hb3)
  clear FP
  have FP := FP2
  clear FP2
  have F12 := Lib.hid (F1.out.next hb3)
  clear F1
  have F1 := F12
  clear F12
  clear hb3
  go_wp2
  go_ret
  exact ⟨rfl, HB.out⟩

set_option maxRecDepth 100000 in
set_option maxHeartbeats 8000000 in
theorem takes_notime (H : StepOk) (A : Option Addr) (n c : Nat) (p : List (Int × Int)) (a b k t : Int) (w : World) (hr : RS w w.heap.size A n p) (hnil : A = none → c = 0) (hnc : n ≤ c) (hn2 : n ≤ 200) (ha : I64 a) (hb : I64 b) (hk : I64 k) (ht' : I64 t) (q : List (Int × Int)) (x y : Int) (ht : takeR p a b k = (q, 0)) (hql : q.length ≤ 2000) (hgv : giveR q a b k = (p, 0)) (hqr : rightP q = true) (hx : atR p t = x) (hqa : atR q t = y) (htb : timeB t = false) (hxy : y = x) :
    Calls Try.prog 5 #[.slice A n c, .int .i64 a, .int .i64 b, .int .i64 k, .int .i64 t] w fun e w' => e = .returned (.bool true) ∧ Below w.heap.size w w' := by
  have FP := Lib.hid hr
  have HN := Lib.hid hnil
  have HC := Lib.hid hnc
  have HL : Hid (n ≤ 2000) := Lib.hid (by omega)
  have HB := Lib.hid (Below.refl w.heap.size w)
  have H_a := Lib.hid ha
  have ha1 := ha.1
  have ha2 := ha.2
  have H_b := Lib.hid hb
  have hb1 := hb.1
  have hb2 := hb.2
  have H_k := Lib.hid hk
  have hk1 := hk.1
  have hk2 := hk.2
  have H_t := Lib.hid ht'
  have ht1 := ht'.1
  have ht2 := ht'.2
  have HT := Lib.hid ht
  have HQL := Lib.hid hql
  have HGV := Lib.hid hgv
  have HQR := Lib.hid hqr
  have HX := Lib.hid hx
  have HQA := Lib.hid hqa
  have HTB := Lib.hid htb
  clear hr hnil hnc ha hb hk ht' ht hql hgv hqr hx hqa htb
  subst hxy
  go_enter Try.func5, Try.ntmps5
  go_wp2_with fail
  refine (stepAwake_any H _).mono ?_
  rintro e w1 ⟨rfl, hb1⟩
  have hBz := HB.out.size
  have HB2 := Lib.hid (HB.out.trans (hb1.mono hBz))
  clear HB hBz
  have HB := HB2
  clear HB2
  have FP2 := Lib.hid (FP.out.next hb1)
  clear FP
  have FP := FP2
  clear FP2
  clear hb1
  go_wp2_with fail
  refine (calls_spost (H.take _ _ _ _ a b k _ FP.out HN.out HC.out HL.out H_a.out H_b.out H_k.out) HT.out).mono ?_
  rintro e w2 ⟨⟨A2, c2, rfl, hr2, hnil2, hc2⟩, hb2⟩
  have hBz := HB.out.size
  have HB2 := Lib.hid (HB.out.trans (hb2.mono hBz))
  clear HB hBz
  have HB := HB2
  clear HB2
  have FP2 := Lib.hid (FP.out.next hb2)
  clear FP
  have FP := FP2
  clear FP2
  clear hb2
  have F1 := Lib.hid hr2
  have F1c := Lib.hid hc2
  have F1z := Lib.hid hnil2
  clear hr2 hc2 hnil2
  go_wp2_with fail
  refine (calls_int (H.at_ _ _ _ _ t _ FP.out HL.out H_t.out) HX.out).mono ?_
  rintro e w3 ⟨rfl, hb3⟩
  have hBz := HB.out.size
  have HB2 := Lib.hid (HB.out.trans (hb3.mono hBz))
  clear HB hBz
  have HB := HB2
  clear HB2
  have FP2 := Lib.hid (FP.out.next hb3)
  clear FP
  have FP := FP2
  clear FP2
  have F12 := Lib.hid (F1.out.next hb3)
  clear F1
  have F1 := F12
  clear F12
  clear hb3
  go_wp2_with fail
  refine (calls_bool (H.time t _ H_t.out) HTB.out).mono ?_
  rintro e w4 ⟨rfl, hb4⟩
  have hBz := HB.out.size
  have HB2 := Lib.hid (HB.out.trans (hb4.mono hBz))
  clear HB hBz
  have HB := HB2
  clear HB2
  have FP2 := Lib.hid (FP.out.next hb4)
  clear FP
  have FP := FP2
  clear FP2
  have F12 := Lib.hid (F1.out.next hb4)
  clear F1
  have F1 := F12
  clear F12
  clear hb4
  go_wp2_with fail
  refine (calls_spost (H.give _ _ _ _ a b k _ F1.out F1z.out F1c.out HQL.out H_a.out H_b.out H_k.out) HGV.out).mono ?_
  rintro e w5 ⟨⟨A5, c5, rfl, hr5, hnil5, hc5⟩, hb5⟩
  have hBz := HB.out.size
  have HB2 := Lib.hid (HB.out.trans (hb5.mono hBz))
  clear HB hBz
  have HB := HB2
  clear HB2
  have FP2 := Lib.hid (FP.out.next hb5)
  clear FP
  have FP := FP2
  clear FP2
  have F12 := Lib.hid (F1.out.next hb5)
  clear F1
  have F1 := F12
  clear F12
  clear hb5
  have F2 := Lib.hid hr5
  have F2c := Lib.hid hc5
  have F2z := Lib.hid hnil5
  clear hr5 hc5 hnil5
  go_wp2_with fail
  refine (calls_bool (H.right _ _ _ _ _ F1.out HQL.out) HQR.out).mono ?_
  rintro e w6 ⟨rfl, hb6⟩
  have hBz := HB.out.size
  have HB2 := Lib.hid (HB.out.trans (hb6.mono hBz))
  clear HB hBz
  have HB := HB2
  clear HB2
  have FP2 := Lib.hid (FP.out.next hb6)
  clear FP
  have FP := FP2
  clear FP2
  have F12 := Lib.hid (F1.out.next hb6)
  clear F1
  have F1 := F12
  clear F12
  have F22 := Lib.hid (F2.out.next hb6)
  clear F2
  have F2 := F22
  clear F22
  clear hb6
  go_wp2_with fail
  refine (calls_int (H.at_ _ _ _ _ t _ F1.out HQL.out H_t.out) HQA.out).mono ?_
  rintro e w7 ⟨rfl, hb7⟩
  have hBz := HB.out.size
  have HB2 := Lib.hid (HB.out.trans (hb7.mono hBz))
  clear HB hBz
  have HB := HB2
  clear HB2
  have FP2 := Lib.hid (FP.out.next hb7)
  clear FP
  have FP := FP2
  clear FP2
  have F12 := Lib.hid (F1.out.next hb7)
  clear F1
  have F1 := F12
  clear F12
  have F22 := Lib.hid (F2.out.next hb7)
  clear F2
  have F2 := F22
  clear F22
  clear hb7
  go_wp2_with fail
  refine (s_same F2.out FP.out (by have := FP.out.1; have := HL.out; omega) HL.out rfl).mono ?_
  rintro e w8 ⟨rfl, hb8⟩
  have hBz := HB.out.size
  have HB2 := Lib.hid (HB.out.trans (hb8.mono hBz))
  clear HB hBz
  have HB := HB2
  clear HB2
  have FP2 := Lib.hid (FP.out.next hb8)
  clear FP
  have FP := FP2
  clear FP2
  have F12 := Lib.hid (F1.out.next hb8)
  clear F1
  have F1 := F12
  clear F12
  have F22 := Lib.hid (F2.out.next hb8)
  clear F2
  have F2 := F22
  clear F22
  clear hb8
  go_wp2
  go_ret
  exact ⟨rfl, HB.out⟩

set_option maxRecDepth 100000 in
set_option maxHeartbeats 8000000 in
theorem takes_out (H : StepOk) (A : Option Addr) (n c : Nat) (p : List (Int × Int)) (a b k t : Int) (w : World) (hr : RS w w.heap.size A n p) (hnil : A = none → c = 0) (hnc : n ≤ c) (hn2 : n ≤ 200) (ha : I64 a) (hb : I64 b) (hk : I64 k) (ht' : I64 t) (q : List (Int × Int)) (x y : Int) (ht : takeR p a b k = (q, 0)) (hql : q.length ≤ 2000) (hgv : giveR q a b k = (p, 0)) (hqr : rightP q = true) (hx : atR p t = x) (hqa : atR q t = y) (htb : timeB t = true) (hwb : withinB t (plusZ t 1) a b = false) (hxy : y = x) :
    Calls Try.prog 5 #[.slice A n c, .int .i64 a, .int .i64 b, .int .i64 k, .int .i64 t] w fun e w' => e = .returned (.bool true) ∧ Below w.heap.size w w' := by
  have FP := Lib.hid hr
  have HN := Lib.hid hnil
  have HC := Lib.hid hnc
  have HL : Hid (n ≤ 2000) := Lib.hid (by omega)
  have HB := Lib.hid (Below.refl w.heap.size w)
  have H_a := Lib.hid ha
  have ha1 := ha.1
  have ha2 := ha.2
  have H_b := Lib.hid hb
  have hb1 := hb.1
  have hb2 := hb.2
  have H_k := Lib.hid hk
  have hk1 := hk.1
  have hk2 := hk.2
  have H_t := Lib.hid ht'
  have ht1 := ht'.1
  have ht2 := ht'.2
  have HT := Lib.hid ht
  have HQL := Lib.hid hql
  have HGV := Lib.hid hgv
  have HQR := Lib.hid hqr
  have HX := Lib.hid hx
  have HQA := Lib.hid hqa
  have HTB := Lib.hid htb
  have HWB := Lib.hid hwb
  clear hr hnil hnc ha hb hk ht' ht hql hgv hqr hx hqa htb hwb
  subst hxy
  have HPL := Lib.hid (plusZ_i64 t 1)
  go_enter Try.func5, Try.ntmps5
  go_wp2_with fail
  refine (stepAwake_any H _).mono ?_
  rintro e w1 ⟨rfl, hb1⟩
  have hBz := HB.out.size
  have HB2 := Lib.hid (HB.out.trans (hb1.mono hBz))
  clear HB hBz
  have HB := HB2
  clear HB2
  have FP2 := Lib.hid (FP.out.next hb1)
  clear FP
  have FP := FP2
  clear FP2
  clear hb1
  go_wp2_with fail
  refine (calls_spost (H.take _ _ _ _ a b k _ FP.out HN.out HC.out HL.out H_a.out H_b.out H_k.out) HT.out).mono ?_
  rintro e w2 ⟨⟨A2, c2, rfl, hr2, hnil2, hc2⟩, hb2⟩
  have hBz := HB.out.size
  have HB2 := Lib.hid (HB.out.trans (hb2.mono hBz))
  clear HB hBz
  have HB := HB2
  clear HB2
  have FP2 := Lib.hid (FP.out.next hb2)
  clear FP
  have FP := FP2
  clear FP2
  clear hb2
  have F1 := Lib.hid hr2
  have F1c := Lib.hid hc2
  have F1z := Lib.hid hnil2
  clear hr2 hc2 hnil2
  go_wp2_with fail
  refine (calls_int (H.at_ _ _ _ _ t _ FP.out HL.out H_t.out) HX.out).mono ?_
  rintro e w3 ⟨rfl, hb3⟩
  have hBz := HB.out.size
  have HB2 := Lib.hid (HB.out.trans (hb3.mono hBz))
  clear HB hBz
  have HB := HB2
  clear HB2
  have FP2 := Lib.hid (FP.out.next hb3)
  clear FP
  have FP := FP2
  clear FP2
  have F12 := Lib.hid (F1.out.next hb3)
  clear F1
  have F1 := F12
  clear F12
  clear hb3
  go_wp2_with fail
  refine (calls_bool (H.time t _ H_t.out) HTB.out).mono ?_
  rintro e w4 ⟨rfl, hb4⟩
  have hBz := HB.out.size
  have HB2 := Lib.hid (HB.out.trans (hb4.mono hBz))
  clear HB hBz
  have HB := HB2
  clear HB2
  have FP2 := Lib.hid (FP.out.next hb4)
  clear FP
  have FP := FP2
  clear FP2
  have F12 := Lib.hid (F1.out.next hb4)
  clear F1
  have F1 := F12
  clear F12
  clear hb4
  go_wp2_with fail
  refine (H.plus t 1 _ H_t.out ⟨by omega, by omega⟩).mono ?_
  rintro e w5 ⟨rfl, hb5⟩
  have hBz := HB.out.size
  have HB2 := Lib.hid (HB.out.trans (hb5.mono hBz))
  clear HB hBz
  have HB := HB2
  clear HB2
  have FP2 := Lib.hid (FP.out.next hb5)
  clear FP
  have FP := FP2
  clear FP2
  have F12 := Lib.hid (F1.out.next hb5)
  clear F1
  have F1 := F12
  clear F12
  clear hb5
  go_wp2_with fail
  refine (calls_bool (H.within t (plusZ t 1) a b _ H_t.out HPL.out H_a.out H_b.out) HWB.out).mono ?_
  rintro e w6 ⟨rfl, hb6⟩
  have hBz := HB.out.size
  have HB2 := Lib.hid (HB.out.trans (hb6.mono hBz))
  clear HB hBz
  have HB := HB2
  clear HB2
  have FP2 := Lib.hid (FP.out.next hb6)
  clear FP
  have FP := FP2
  clear FP2
  have F12 := Lib.hid (F1.out.next hb6)
  clear F1
  have F1 := F12
  clear F12
  clear hb6
  go_wp2_with fail
  refine (calls_spost (H.give _ _ _ _ a b k _ F1.out F1z.out F1c.out HQL.out H_a.out H_b.out H_k.out) HGV.out).mono ?_
  rintro e w7 ⟨⟨A7, c7, rfl, hr7, hnil7, hc7⟩, hb7⟩
  have hBz := HB.out.size
  have HB2 := Lib.hid (HB.out.trans (hb7.mono hBz))
  clear HB hBz
  have HB := HB2
  clear HB2
  have FP2 := Lib.hid (FP.out.next hb7)
  clear FP
  have FP := FP2
  clear FP2
  have F12 := Lib.hid (F1.out.next hb7)
  clear F1
  have F1 := F12
  clear F12
  clear hb7
  have F2 := Lib.hid hr7
  have F2c := Lib.hid hc7
  have F2z := Lib.hid hnil7
  clear hr7 hc7 hnil7
  go_wp2_with fail
  refine (calls_bool (H.right _ _ _ _ _ F1.out HQL.out) HQR.out).mono ?_
  rintro e w8 ⟨rfl, hb8⟩
  have hBz := HB.out.size
  have HB2 := Lib.hid (HB.out.trans (hb8.mono hBz))
  clear HB hBz
  have HB := HB2
  clear HB2
  have FP2 := Lib.hid (FP.out.next hb8)
  clear FP
  have FP := FP2
  clear FP2
  have F12 := Lib.hid (F1.out.next hb8)
  clear F1
  have F1 := F12
  clear F12
  have F22 := Lib.hid (F2.out.next hb8)
  clear F2
  have F2 := F22
  clear F22
  clear hb8
  go_wp2_with fail
  refine (calls_int (H.at_ _ _ _ _ t _ F1.out HQL.out H_t.out) HQA.out).mono ?_
  rintro e w9 ⟨rfl, hb9⟩
  have hBz := HB.out.size
  have HB2 := Lib.hid (HB.out.trans (hb9.mono hBz))
  clear HB hBz
  have HB := HB2
  clear HB2
  have FP2 := Lib.hid (FP.out.next hb9)
  clear FP
  have FP := FP2
  clear FP2
  have F12 := Lib.hid (F1.out.next hb9)
  clear F1
  have F1 := F12
  clear F12
  have F22 := Lib.hid (F2.out.next hb9)
  clear F2
  have F2 := F22
  clear F22
  clear hb9
  go_wp2_with fail
  refine (s_same F2.out FP.out (by have := FP.out.1; have := HL.out; omega) HL.out rfl).mono ?_
  rintro e w10 ⟨rfl, hb10⟩
  have hBz := HB.out.size
  have HB2 := Lib.hid (HB.out.trans (hb10.mono hBz))
  clear HB hBz
  have HB := HB2
  clear HB2
  have FP2 := Lib.hid (FP.out.next hb10)
  clear FP
  have FP := FP2
  clear FP2
  have F12 := Lib.hid (F1.out.next hb10)
  clear F1
  have F1 := F12
  clear F12
  have F22 := Lib.hid (F2.out.next hb10)
  clear F2
  have F2 := F22
  clear F22
  clear hb10
  go_wp2
  go_ret
  exact ⟨rfl, HB.out⟩

set_option maxRecDepth 100000 in
set_option maxHeartbeats 8000000 in
theorem takes_never (H : StepOk) (A : Option Addr) (n c : Nat) (p : List (Int × Int)) (a b k t : Int) (w : World) (hr : RS w w.heap.size A n p) (hnil : A = none → c = 0) (hnc : n ≤ c) (hn2 : n ≤ 200) (ha : I64 a) (hb : I64 b) (hk : I64 k) (ht' : I64 t) (q : List (Int × Int)) (x y : Int) (ht : takeR p a b k = (q, 0)) (hql : q.length ≤ 2000) (hgv : giveR q a b k = (p, 0)) (hqr : rightP q = true) (hx : atR p t = x) (hqa : atR q t = y) (htb : timeB t = true) (hwb : withinB t (plusZ t 1) a b = true) (htn : ¬ t < 4611686018427387904) (hxy : y = x) :
    Calls Try.prog 5 #[.slice A n c, .int .i64 a, .int .i64 b, .int .i64 k, .int .i64 t] w fun e w' => e = .returned (.bool true) ∧ Below w.heap.size w w' := by
  have FP := Lib.hid hr
  have HN := Lib.hid hnil
  have HC := Lib.hid hnc
  have HL : Hid (n ≤ 2000) := Lib.hid (by omega)
  have HB := Lib.hid (Below.refl w.heap.size w)
  have H_a := Lib.hid ha
  have ha1 := ha.1
  have ha2 := ha.2
  have H_b := Lib.hid hb
  have hb1 := hb.1
  have hb2 := hb.2
  have H_k := Lib.hid hk
  have hk1 := hk.1
  have hk2 := hk.2
  have H_t := Lib.hid ht'
  have ht1 := ht'.1
  have ht2 := ht'.2
  have HT := Lib.hid ht
  have HQL := Lib.hid hql
  have HGV := Lib.hid hgv
  have HQR := Lib.hid hqr
  have HX := Lib.hid hx
  have HQA := Lib.hid hqa
  have HTB := Lib.hid htb
  have HWB := Lib.hid hwb
  clear hr hnil hnc ha hb hk ht' ht hql hgv hqr hx hqa htb hwb
  subst hxy
  have HPL := Lib.hid (plusZ_i64 t 1)
  go_enter Try.func5, Try.ntmps5
  go_wp2_with fail
  refine (stepAwake_any H _).mono ?_
  rintro e w1 ⟨rfl, hb1⟩
  have hBz := HB.out.size
  have HB2 := Lib.hid (HB.out.trans (hb1.mono hBz))
  clear HB hBz
  have HB := HB2
  clear HB2
  have FP2 := Lib.hid (FP.out.next hb1)
  clear FP
  have FP := FP2
  clear FP2
  clear hb1
  go_wp2_with fail
  refine (calls_spost (H.take _ _ _ _ a b k _ FP.out HN.out HC.out HL.out H_a.out H_b.out H_k.out) HT.out).mono ?_
  rintro e w2 ⟨⟨A2, c2, rfl, hr2, hnil2, hc2⟩, hb2⟩
  have hBz := HB.out.size
  have HB2 := Lib.hid (HB.out.trans (hb2.mono hBz))
  clear HB hBz
  have HB := HB2
  clear HB2
  have FP2 := Lib.hid (FP.out.next hb2)
  clear FP
  have FP := FP2
  clear FP2
  clear hb2
  have F1 := Lib.hid hr2
  have F1c := Lib.hid hc2
  have F1z := Lib.hid hnil2
  clear hr2 hc2 hnil2
  go_wp2_with fail
  refine (calls_int (H.at_ _ _ _ _ t _ FP.out HL.out H_t.out) HX.out).mono ?_
  rintro e w3 ⟨rfl, hb3⟩
  have hBz := HB.out.size
  have HB2 := Lib.hid (HB.out.trans (hb3.mono hBz))
  clear HB hBz
  have HB := HB2
  clear HB2
  have FP2 := Lib.hid (FP.out.next hb3)
  clear FP
  have FP := FP2
  clear FP2
  have F12 := Lib.hid (F1.out.next hb3)
  clear F1
  have F1 := F12
  clear F12
  clear hb3
  go_wp2_with fail
  refine (calls_bool (H.time t _ H_t.out) HTB.out).mono ?_
  rintro e w4 ⟨rfl, hb4⟩
  have hBz := HB.out.size
  have HB2 := Lib.hid (HB.out.trans (hb4.mono hBz))
  clear HB hBz
  have HB := HB2
  clear HB2
  have FP2 := Lib.hid (FP.out.next hb4)
  clear FP
  have FP := FP2
  clear FP2
  have F12 := Lib.hid (F1.out.next hb4)
  clear F1
  have F1 := F12
  clear F12
  clear hb4
  go_wp2_with fail
  refine (H.plus t 1 _ H_t.out ⟨by omega, by omega⟩).mono ?_
  rintro e w5 ⟨rfl, hb5⟩
  have hBz := HB.out.size
  have HB2 := Lib.hid (HB.out.trans (hb5.mono hBz))
  clear HB hBz
  have HB := HB2
  clear HB2
  have FP2 := Lib.hid (FP.out.next hb5)
  clear FP
  have FP := FP2
  clear FP2
  have F12 := Lib.hid (F1.out.next hb5)
  clear F1
  have F1 := F12
  clear F12
  clear hb5
  go_wp2_with fail
  refine (calls_bool (H.within t (plusZ t 1) a b _ H_t.out HPL.out H_a.out H_b.out) HWB.out).mono ?_
  rintro e w6 ⟨rfl, hb6⟩
  have hBz := HB.out.size
  have HB2 := Lib.hid (HB.out.trans (hb6.mono hBz))
  clear HB hBz
  have HB := HB2
  clear HB2
  have FP2 := Lib.hid (FP.out.next hb6)
  clear FP
  have FP := FP2
  clear FP2
  have F12 := Lib.hid (F1.out.next hb6)
  clear F1
  have F1 := F12
  clear F12
  clear hb6
  go_wp2_with fail
  refine (calls_spost (H.give _ _ _ _ a b k _ F1.out F1z.out F1c.out HQL.out H_a.out H_b.out H_k.out) HGV.out).mono ?_
  rintro e w7 ⟨⟨A7, c7, rfl, hr7, hnil7, hc7⟩, hb7⟩
  have hBz := HB.out.size
  have HB2 := Lib.hid (HB.out.trans (hb7.mono hBz))
  clear HB hBz
  have HB := HB2
  clear HB2
  have FP2 := Lib.hid (FP.out.next hb7)
  clear FP
  have FP := FP2
  clear FP2
  have F12 := Lib.hid (F1.out.next hb7)
  clear F1
  have F1 := F12
  clear F12
  clear hb7
  have F2 := Lib.hid hr7
  have F2c := Lib.hid hc7
  have F2z := Lib.hid hnil7
  clear hr7 hc7 hnil7
  go_wp2_with fail
  refine (calls_bool (H.right _ _ _ _ _ F1.out HQL.out) HQR.out).mono ?_
  rintro e w8 ⟨rfl, hb8⟩
  have hBz := HB.out.size
  have HB2 := Lib.hid (HB.out.trans (hb8.mono hBz))
  clear HB hBz
  have HB := HB2
  clear HB2
  have FP2 := Lib.hid (FP.out.next hb8)
  clear FP
  have FP := FP2
  clear FP2
  have F12 := Lib.hid (F1.out.next hb8)
  clear F1
  have F1 := F12
  clear F12
  have F22 := Lib.hid (F2.out.next hb8)
  clear F2
  have F2 := F22
  clear F22
  clear hb8
  go_wp2_with fail
  refine (calls_int (H.at_ _ _ _ _ t _ F1.out HQL.out H_t.out) HQA.out).mono ?_
  rintro e w9 ⟨rfl, hb9⟩
  have hBz := HB.out.size
  have HB2 := Lib.hid (HB.out.trans (hb9.mono hBz))
  clear HB hBz
  have HB := HB2
  clear HB2
  have FP2 := Lib.hid (FP.out.next hb9)
  clear FP
  have FP := FP2
  clear FP2
  have F12 := Lib.hid (F1.out.next hb9)
  clear F1
  have F1 := F12
  clear F12
  have F22 := Lib.hid (F2.out.next hb9)
  clear F2
  have F2 := F22
  clear F22
  clear hb9
  go_wp2_with fail
  refine (s_same F2.out FP.out (by have := FP.out.1; have := HL.out; omega) HL.out rfl).mono ?_
  rintro e w10 ⟨rfl, hb10⟩
  have hBz := HB.out.size
  have HB2 := Lib.hid (HB.out.trans (hb10.mono hBz))
  clear HB hBz
  have HB := HB2
  clear HB2
  have FP2 := Lib.hid (FP.out.next hb10)
  clear FP
  have FP := FP2
  clear FP2
  have F12 := Lib.hid (F1.out.next hb10)
  clear F1
  have F1 := F12
  clear F12
  have F22 := Lib.hid (F2.out.next hb10)
  clear F2
  have F2 := F22
  clear F22
  clear hb10
  go_wp2
  go_ret
  exact ⟨rfl, HB.out⟩

set_option maxRecDepth 100000 in
set_option maxHeartbeats 8000000 in
theorem takes_in (H : StepOk) (A : Option Addr) (n c : Nat) (p : List (Int × Int)) (a b k t : Int) (w : World) (hr : RS w w.heap.size A n p) (hnil : A = none → c = 0) (hnc : n ≤ c) (hn2 : n ≤ 200) (ha : I64 a) (hb : I64 b) (hk : I64 k) (ht' : I64 t) (q : List (Int × Int)) (x y : Int) (ht : takeR p a b k = (q, 0)) (hql : q.length ≤ 2000) (hgv : giveR q a b k = (p, 0)) (hqr : rightP q = true) (hx : atR p t = x) (hqa : atR q t = y) (htb : timeB t = true) (hwb : withinB t (plusZ t 1) a b = true) (htn : t < 4611686018427387904) (hk0 : 0 ≤ k) (hk9 : k ≤ 1048576) (hx0 : 0 ≤ x) (hx9 : x ≤ 1048576) (hxy : y = x - k) :
    Calls Try.prog 5 #[.slice A n c, .int .i64 a, .int .i64 b, .int .i64 k, .int .i64 t] w fun e w' => e = .returned (.bool true) ∧ Below w.heap.size w w' := by
  have FP := Lib.hid hr
  have HN := Lib.hid hnil
  have HC := Lib.hid hnc
  have HL : Hid (n ≤ 2000) := Lib.hid (by omega)
  have HB := Lib.hid (Below.refl w.heap.size w)
  have H_a := Lib.hid ha
  have ha1 := ha.1
  have ha2 := ha.2
  have H_b := Lib.hid hb
  have hb1 := hb.1
  have hb2 := hb.2
  have H_k := Lib.hid hk
  have hk1 := hk.1
  have hk2 := hk.2
  have H_t := Lib.hid ht'
  have ht1 := ht'.1
  have ht2 := ht'.2
  have HT := Lib.hid ht
  have HQL := Lib.hid hql
  have HGV := Lib.hid hgv
  have HQR := Lib.hid hqr
  have HX := Lib.hid hx
  have HQA := Lib.hid hqa
  have HTB := Lib.hid htb
  have HWB := Lib.hid hwb
  clear hr hnil hnc ha hb hk ht' ht hql hgv hqr hx hqa htb hwb
  subst hxy
  have HPL := Lib.hid (plusZ_i64 t 1)
  go_enter Try.func5, Try.ntmps5
  go_wp2_with fail
  refine (stepAwake_any H _).mono ?_
  rintro e w1 ⟨rfl, hb1⟩
  have hBz := HB.out.size
  have HB2 := Lib.hid (HB.out.trans (hb1.mono hBz))
  clear HB hBz
  have HB := HB2
  clear HB2
  have FP2 := Lib.hid (FP.out.next hb1)
  clear FP
  have FP := FP2
  clear FP2
  clear hb1
  go_wp2_with fail
  refine (calls_spost (H.take _ _ _ _ a b k _ FP.out HN.out HC.out HL.out H_a.out H_b.out H_k.out) HT.out).mono ?_
  rintro e w2 ⟨⟨A2, c2, rfl, hr2, hnil2, hc2⟩, hb2⟩
  have hBz := HB.out.size
  have HB2 := Lib.hid (HB.out.trans (hb2.mono hBz))
  clear HB hBz
  have HB := HB2
  clear HB2
  have FP2 := Lib.hid (FP.out.next hb2)
  clear FP
  have FP := FP2
  clear FP2
  clear hb2
  have F1 := Lib.hid hr2
  have F1c := Lib.hid hc2
  have F1z := Lib.hid hnil2
  clear hr2 hc2 hnil2
  go_wp2_with fail
  refine (calls_int (H.at_ _ _ _ _ t _ FP.out HL.out H_t.out) HX.out).mono ?_
  rintro e w3 ⟨rfl, hb3⟩
  have hBz := HB.out.size
  have HB2 := Lib.hid (HB.out.trans (hb3.mono hBz))
  clear HB hBz
  have HB := HB2
  clear HB2
  have FP2 := Lib.hid (FP.out.next hb3)
  clear FP
  have FP := FP2
  clear FP2
  have F12 := Lib.hid (F1.out.next hb3)
  clear F1
  have F1 := F12
  clear F12
  clear hb3
  go_wp2_with fail
  refine (calls_bool (H.time t _ H_t.out) HTB.out).mono ?_
  rintro e w4 ⟨rfl, hb4⟩
  have hBz := HB.out.size
  have HB2 := Lib.hid (HB.out.trans (hb4.mono hBz))
  clear HB hBz
  have HB := HB2
  clear HB2
  have FP2 := Lib.hid (FP.out.next hb4)
  clear FP
  have FP := FP2
  clear FP2
  have F12 := Lib.hid (F1.out.next hb4)
  clear F1
  have F1 := F12
  clear F12
  clear hb4
  go_wp2_with fail
  refine (H.plus t 1 _ H_t.out ⟨by omega, by omega⟩).mono ?_
  rintro e w5 ⟨rfl, hb5⟩
  have hBz := HB.out.size
  have HB2 := Lib.hid (HB.out.trans (hb5.mono hBz))
  clear HB hBz
  have HB := HB2
  clear HB2
  have FP2 := Lib.hid (FP.out.next hb5)
  clear FP
  have FP := FP2
  clear FP2
  have F12 := Lib.hid (F1.out.next hb5)
  clear F1
  have F1 := F12
  clear F12
  clear hb5
  go_wp2_with fail
  refine (calls_bool (H.within t (plusZ t 1) a b _ H_t.out HPL.out H_a.out H_b.out) HWB.out).mono ?_
  rintro e w6 ⟨rfl, hb6⟩
  have hBz := HB.out.size
  have HB2 := Lib.hid (HB.out.trans (hb6.mono hBz))
  clear HB hBz
  have HB := HB2
  clear HB2
  have FP2 := Lib.hid (FP.out.next hb6)
  clear FP
  have FP := FP2
  clear FP2
  have F12 := Lib.hid (F1.out.next hb6)
  clear F1
  have F1 := F12
  clear F12
  clear hb6
  go_wp2_with fail
  refine (calls_spost (H.give _ _ _ _ a b k _ F1.out F1z.out F1c.out HQL.out H_a.out H_b.out H_k.out) HGV.out).mono ?_
  rintro e w7 ⟨⟨A7, c7, rfl, hr7, hnil7, hc7⟩, hb7⟩
  have hBz := HB.out.size
  have HB2 := Lib.hid (HB.out.trans (hb7.mono hBz))
  clear HB hBz
  have HB := HB2
  clear HB2
  have FP2 := Lib.hid (FP.out.next hb7)
  clear FP
  have FP := FP2
  clear FP2
  have F12 := Lib.hid (F1.out.next hb7)
  clear F1
  have F1 := F12
  clear F12
  clear hb7
  have F2 := Lib.hid hr7
  have F2c := Lib.hid hc7
  have F2z := Lib.hid hnil7
  clear hr7 hc7 hnil7
  go_wp2_with fail
  refine (calls_bool (H.right _ _ _ _ _ F1.out HQL.out) HQR.out).mono ?_
  rintro e w8 ⟨rfl, hb8⟩
  have hBz := HB.out.size
  have HB2 := Lib.hid (HB.out.trans (hb8.mono hBz))
  clear HB hBz
  have HB := HB2
  clear HB2
  have FP2 := Lib.hid (FP.out.next hb8)
  clear FP
  have FP := FP2
  clear FP2
  have F12 := Lib.hid (F1.out.next hb8)
  clear F1
  have F1 := F12
  clear F12
  have F22 := Lib.hid (F2.out.next hb8)
  clear F2
  have F2 := F22
  clear F22
  clear hb8
  go_wp2_with fail
  refine (calls_int (H.at_ _ _ _ _ t _ F1.out HQL.out H_t.out) HQA.out).mono ?_
  rintro e w9 ⟨rfl, hb9⟩
  have hBz := HB.out.size
  have HB2 := Lib.hid (HB.out.trans (hb9.mono hBz))
  clear HB hBz
  have HB := HB2
  clear HB2
  have FP2 := Lib.hid (FP.out.next hb9)
  clear FP
  have FP := FP2
  clear FP2
  have F12 := Lib.hid (F1.out.next hb9)
  clear F1
  have F1 := F12
  clear F12
  have F22 := Lib.hid (F2.out.next hb9)
  clear F2
  have F2 := F22
  clear F22
  clear hb9
  go_wp2_with fail
  refine (s_same F2.out FP.out (by have := FP.out.1; have := HL.out; omega) HL.out rfl).mono ?_
  rintro e w10 ⟨rfl, hb10⟩
  have hBz := HB.out.size
  have HB2 := Lib.hid (HB.out.trans (hb10.mono hBz))
  clear HB hBz
  have HB := HB2
  clear HB2
  have FP2 := Lib.hid (FP.out.next hb10)
  clear FP
  have FP := FP2
  clear FP2
  have F12 := Lib.hid (F1.out.next hb10)
  clear F1
  have F1 := F12
  clear F12
  have F22 := Lib.hid (F2.out.next hb10)
  clear F2
  have F2 := F22
  clear F22
  clear hb10
  go_wp2
  go_ret
  exact ⟨rfl, HB.out⟩

theorem stepTakes_walk (H : StepOk) (A : Option Addr) (n c : Nat) (p : List (Int × Int)) (a b k t : Int) (w : World) (hr : RS w w.heap.size A n p) (hnil : A = none → c = 0) (hnc : n ≤ c) (hn : n ≤ maxLen) (ha : I64 a) (hb : I64 b) (hk : I64 k) (ht' : I64 t) :
    Calls Try.prog 5 #[.slice A n c, .int .i64 a, .int .i64 b, .int .i64 k, .int .i64 t] w fun e w' => e = .returned (.bool true) ∧ Below w.heap.size w w' := by
  by_cases h : 200 < n
  · exact takes_long H A n c a b k t w hn h
  · have hn2 : n ≤ 200 := by omega
    have hpl : p.length ≤ 1000 := by have := hr.1; omega
    by_cases hok : mayP p a b = true ∧ 0 ≤ k ∧ k ≤ MAXF ∧ k ≤ leastL p a b
    · obtain ⟨hm, g0, g1, g2⟩ := hok
      have ht := take_ok hpl hm g0 g1 g2
      obtain ⟨q1, q2, _⟩ := taken_right hpl hm g0 g2
      have hgv := give_back hpl hm g0 g1 g2
      have hqa := taken_at (t := t) hpl hm g0 g2
      have hql : (changeL p a b (-k)).length ≤ 2000 := by omega
      cases htb : timeB t with
      | false => exact takes_notime H A n c p a b k t w hr hnil hnc hn2 ha hb hk ht' _ _ _ ht hql hgv q1 rfl rfl htb (by rw [hqa, htb, if_neg (by simp)])
      | true =>
        cases hwb : withinB t (plusZ t 1) a b with
        | false => exact takes_out H A n c p a b k t w hr hnil hnc hn2 ha hb hk ht' _ _ _ ht hql hgv q1 rfl rfl htb hwb (by rw [hqa, hwb, if_neg (by simp)])
        | true =>
          by_cases htn : t < 4611686018427387904
          · have hrange : 0 ≤ atR p t ∧ atR p t ≤ 1048576 := by
              unfold atR
              split
              · rename_i hh
                exact atP_bounds ((rightP_iff p).1 hh.1).2.1 t
              · omega
            exact takes_in H A n c p a b k t w hr hnil hnc hn2 ha hb hk ht' _ _ _ ht hql hgv q1 rfl rfl htb hwb htn g0 g1 hrange.1 hrange.2 (by rw [hqa, if_pos ⟨htb, hwb, htn⟩])
          · exact takes_never H A n c p a b k t w hr hnil hnc hn2 ha hb hk ht' _ _ _ ht hql hgv q1 rfl rfl htb hwb htn (by rw [hqa, if_neg (fun h => htn h.2.2)])
    · obtain ⟨er, h1, h2⟩ := take_no hok
      exact takes_no H A n c p a b k t w hr hnil hnc hn2 ha hb hk ht' er h1 (bne_iff_ne.2 h2)

end Go.Proofs.Ytiilnacfdgmfcaa
