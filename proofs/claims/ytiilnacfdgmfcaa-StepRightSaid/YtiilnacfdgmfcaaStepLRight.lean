/- The statement StepRight, as a walk over the contracts: of any profile, span and number the call returns true. -/
import Derived.Test.YtiilnacfdgmfcaaStepAwake
import Derived.Test.YtiilnacfdgmfcaaStepLaws
namespace Go.Proofs.Ytiilnacfdgmfcaa
open Go.RowKit

set_option maxRecDepth 100000 in
theorem sright_long (H : StepOk) (A : Option Addr) (n c : Nat) (a b k : Int) (w : World) (hn : n ≤ maxLen) (hl : 200 < n) :
    Calls Try.prog 3 #[.slice A n c, .int .i64 a, .int .i64 b, .int .i64 k] w fun e w' => e = .returned (.bool true) ∧ Below w.heap.size w w' := by
  unfold maxLen at hn
  go_enter Try.func3, Try.ntmps3
  go_wp2_with fail
  refine (stepAwake_any H _).mono ?_
  rintro e w1 ⟨rfl, hb1⟩
  go_wp2
  go_ret
  exact ⟨rfl, hb1⟩
set_option maxRecDepth 100000 in
set_option maxHeartbeats 8000000 in
theorem sright_may_low (H : StepOk) (A : Option Addr) (n c : Nat) (p : List (Int × Int)) (a b k : Int) (w : World) (hr : RS w w.heap.size A n p) (hnil : A = none → c = 0) (hnc : n ≤ c) (hn2 : n ≤ 200) (ha : I64 a) (hb : I64 b) (hk : I64 k) (q1 q2 : List (Int × Int)) (e1 e2 : Int) (ht1 : takeR p a b k = (q1, e1)) (ht2 : giveR p a b k = (q2, e2)) (hq1 : q1.length ≤ 2000) (hq2 : q2.length ≤ 2000) (x : Int) (hle : leastE p a b = (x, 0)) (hmy : mayP p a b = true) (hlr : leastR p a b = x) (hnw : newR k = ([], 1)) (hk0 : k < 0) :
    Calls Try.prog 3 #[.slice A n c, .int .i64 a, .int .i64 b, .int .i64 k] w fun e w' => e = .returned (.bool true) ∧ Below w.heap.size w w' := by
  have FP := Lib.hid hr
  have HN := Lib.hid hnil
  have HC := Lib.hid hnc
  have HL : Hid (n ≤ 2000) := Lib.hid (by omega)
  have HB := Lib.hid (Below.refl w.heap.size w)
  have H_a := Lib.hid ha
  have ha1 := ha.1
  have ha2 := ha.2
  have H_b := Lib.hid hb
  have hb1 := hb.1
  have hb2 := hb.2
  have H_k := Lib.hid hk
  have hk1 := hk.1
  have hk2 := hk.2
  have HT1 := Lib.hid ht1
  have HT2 := Lib.hid ht2
  have HQ1 := Lib.hid hq1
  have HQ2 := Lib.hid hq2
  have HLE := Lib.hid hle
  have HMY := Lib.hid hmy
  have HLR := Lib.hid hlr
  have HNW := Lib.hid hnw
  clear hr hnil hnc ha hb hk ht1 ht2 hq1 hq2 hle hmy hlr hnw
  obtain ⟨i0, hi0, hz0, hz1, hz2⟩ := info_parts step_info
  go_enter Try.func3, Try.ntmps3
  go_wp2_with fail
  refine (stepAwake_any H _).mono ?_
  rintro e w1 ⟨rfl, hb1⟩
  have hBz := HB.out.size
  have HB2 := Lib.hid (HB.out.trans (hb1.mono hBz))
  clear HB hBz
  have HB := HB2
  clear HB2
  have FP2 := Lib.hid (FP.out.next hb1)
  clear FP
  have FP := FP2
  clear FP2
  clear hb1
  go_wp2_with (at_builtin; refine wpList_append_RS _ rfl (.tmp 27) (.tmp 28) 22 rfl w1.heap.size 35 i0 (.agg #[.int .i64 0, .int .i64 0]) 16 Try.underlying22 hi0 hz0 hz1 hz2 rfl (.slice (some ⟨w1.heap.size, 0, none⟩) 0 0) 0 [] rfl (own_empty2 w1 _) w1.heap.size A n c p rfl (FP.out.below (Below.alloc (Below.refl _ _) (Nat.le_refl _) _)) HN.out (by unfold maxLen; omega) (by omega) (by simp) ?_; intro vx wx hownx hgx; refine Hid.out ?_)
  refine Lib.hid ?_
  have hbx : Below w1.heap.size w1 wx := (Below.alloc (Below.refl _ _) (Nat.le_refl _) _).grown hgx (by simp) (fun j hj => (Nat.le_of_eq (by simpa [Value.ownBlock] using hj)))
  rw [List.nil_append, Nat.zero_add] at hownx
  obtain ⟨AX, cX, rfl⟩ := own_form hownx
  have FX0 := Lib.hid (RS.of_own hownx)
  have FXc := Lib.hid (own_cap hownx)
  have FXz : Hid (AX = none → cX = 0) := Lib.hid (own_nil hownx)
  clear hownx hgx
  have hBz := HB.out.size
  have HB2 := Lib.hid (HB.out.trans (hbx.mono hBz))
  clear HB hBz
  have HB := HB2
  clear HB2
  have FP2 := Lib.hid (FP.out.next hbx)
  clear FP
  have FP := FP2
  clear FP2
  clear hbx
  have FX := FX0
  clear FX0
  go_wp2_with fail
  refine (calls_spost (H.take _ _ _ _ a b k _ FX.out FXz.out FXc.out HL.out H_a.out H_b.out H_k.out) HT1.out).mono ?_
  rintro e w2 ⟨⟨A2, c2, rfl, hr2, hnil2, hc2⟩, hb2⟩
  have hBz := HB.out.size
  have HB2 := Lib.hid (HB.out.trans (hb2.mono hBz))
  clear HB hBz
  have HB := HB2
  clear HB2
  have FP2 := Lib.hid (FP.out.next hb2)
  clear FP
  have FP := FP2
  clear FP2
  have FX2 := Lib.hid (FX.out.next hb2)
  clear FX
  have FX := FX2
  clear FX2
  clear hb2
  have F1 := Lib.hid hr2
  have F1c := Lib.hid hc2
  have F1z := Lib.hid hnil2
  clear hr2 hc2 hnil2
  go_wp2_with fail
  refine (calls_spost (s_take FP.out HN.out HC.out HL.out H_k.out) HT1.out).mono ?_
  rintro e w3 ⟨⟨A3, c3, rfl, hr3, hnil3, hc3⟩, hb3⟩
  have hBz := HB.out.size
  have HB2 := Lib.hid (HB.out.trans (hb3.mono hBz))
  clear HB hBz
  have HB := HB2
  clear HB2
  have FP2 := Lib.hid (FP.out.next hb3)
  clear FP
  have FP := FP2
  clear FP2
  have FX2 := Lib.hid (FX.out.next hb3)
  clear FX
  have FX := FX2
  clear FX2
  have F12 := Lib.hid (F1.out.next hb3)
  clear F1
  have F1 := F12
  clear F12
  clear hb3
  have F2 := Lib.hid hr3
  have F2c := Lib.hid hc3
  have F2z := Lib.hid hnil3
  clear hr3 hc3 hnil3
  go_wp2_with fail
  refine (calls_spost (H.give _ _ _ _ a b k _ FX.out FXz.out FXc.out HL.out H_a.out H_b.out H_k.out) HT2.out).mono ?_
  rintro e w4 ⟨⟨A4, c4, rfl, hr4, hnil4, hc4⟩, hb4⟩
  have hBz := HB.out.size
  have HB2 := Lib.hid (HB.out.trans (hb4.mono hBz))
  clear HB hBz
  have HB := HB2
  clear HB2
  have FP2 := Lib.hid (FP.out.next hb4)
  clear FP
  have FP := FP2
  clear FP2
  have FX2 := Lib.hid (FX.out.next hb4)
  clear FX
  have FX := FX2
  clear FX2
  have F12 := Lib.hid (F1.out.next hb4)
  clear F1
  have F1 := F12
  clear F12
  have F22 := Lib.hid (F2.out.next hb4)
  clear F2
  have F2 := F22
  clear F22
  clear hb4
  have F3 := Lib.hid hr4
  have F3c := Lib.hid hc4
  have F3z := Lib.hid hnil4
  clear hr4 hc4 hnil4
  go_wp2_with fail
  refine (calls_spost (s_give FP.out HN.out HC.out HL.out H_k.out) HT2.out).mono ?_
  rintro e w5 ⟨⟨A5, c5, rfl, hr5, hnil5, hc5⟩, hb5⟩
  have hBz := HB.out.size
  have HB2 := Lib.hid (HB.out.trans (hb5.mono hBz))
  clear HB hBz
  have HB := HB2
  clear HB2
  have FP2 := Lib.hid (FP.out.next hb5)
  clear FP
  have FP := FP2
  clear FP2
  have FX2 := Lib.hid (FX.out.next hb5)
  clear FX
  have FX := FX2
  clear FX2
  have F12 := Lib.hid (F1.out.next hb5)
  clear F1
  have F1 := F12
  clear F12
  have F22 := Lib.hid (F2.out.next hb5)
  clear F2
  have F2 := F22
  clear F22
  have F32 := Lib.hid (F3.out.next hb5)
  clear F3
  have F3 := F32
  clear F32
  clear hb5
  have F4 := Lib.hid hr5
  have F4c := Lib.hid hc5
  have F4z := Lib.hid hnil5
  clear hr5 hc5 hnil5
  go_wp2_with fail
  refine (calls_pair (H.least _ _ _ _ a b _ FX.out FXc.out HL.out H_a.out H_b.out) HLE.out).mono ?_
  rintro e w6 ⟨rfl, hb6⟩
  have hBz := HB.out.size
  have HB2 := Lib.hid (HB.out.trans (hb6.mono hBz))
  clear HB hBz
  have HB := HB2
  clear HB2
  have FP2 := Lib.hid (FP.out.next hb6)
  clear FP
  have FP := FP2
  clear FP2
  have FX2 := Lib.hid (FX.out.next hb6)
  clear FX
  have FX := FX2
  clear FX2
  have F12 := Lib.hid (F1.out.next hb6)
  clear F1
  have F1 := F12
  clear F12
  have F22 := Lib.hid (F2.out.next hb6)
  clear F2
  have F2 := F22
  clear F22
  have F32 := Lib.hid (F3.out.next hb6)
  clear F3
  have F3 := F32
  clear F32
  have F42 := Lib.hid (F4.out.next hb6)
  clear F4
  have F4 := F42
  clear F42
  clear hb6
  go_wp2_with fail
  refine (calls_bool (s_may FP.out HL.out) HMY.out).mono ?_
  rintro e w7 ⟨rfl, hb7⟩
  have hBz := HB.out.size
  have HB2 := Lib.hid (HB.out.trans (hb7.mono hBz))
  clear HB hBz
  have HB := HB2
  clear HB2
  have FP2 := Lib.hid (FP.out.next hb7)
  clear FP
  have FP := FP2
  clear FP2
  have FX2 := Lib.hid (FX.out.next hb7)
  clear FX
  have FX := FX2
  clear FX2
  have F12 := Lib.hid (F1.out.next hb7)
  clear F1
  have F1 := F12
  clear F12
  have F22 := Lib.hid (F2.out.next hb7)
  clear F2
  have F2 := F22
  clear F22
  have F32 := Lib.hid (F3.out.next hb7)
  clear F3
  have F3 := F32
  clear F32
  have F42 := Lib.hid (F4.out.next hb7)
  clear F4
  have F4 := F42
  clear F42
  clear hb7
  go_wp2_with fail
  refine (calls_int (s_least FP.out HL.out) HLR.out).mono ?_
  rintro e w8 ⟨rfl, hb8⟩
  have hBz := HB.out.size
  have HB2 := Lib.hid (HB.out.trans (hb8.mono hBz))
  clear HB hBz
  have HB := HB2
  clear HB2
  have FP2 := Lib.hid (FP.out.next hb8)
  clear FP
  have FP := FP2
  clear FP2
  have FX2 := Lib.hid (FX.out.next hb8)
  clear FX
  have FX := FX2
  clear FX2
  have F12 := Lib.hid (F1.out.next hb8)
  clear F1
  have F1 := F12
  clear F12
  have F22 := Lib.hid (F2.out.next hb8)
  clear F2
  have F2 := F22
  clear F22
  have F32 := Lib.hid (F3.out.next hb8)
  clear F3
  have F3 := F32
  clear F32
  have F42 := Lib.hid (F4.out.next hb8)
  clear F4
  have F4 := F42
  clear F42
  clear hb8
  go_wp2_with fail
  refine (calls_spost (H.new k _ H_k.out) HNW.out).mono ?_
  rintro e w9 ⟨⟨A9, c9, rfl, hr9, hnil9, hc9⟩, hb9⟩
  have hBz := HB.out.size
  have HB2 := Lib.hid (HB.out.trans (hb9.mono hBz))
  clear HB hBz
  have HB := HB2
  clear HB2
  have FP2 := Lib.hid (FP.out.next hb9)
  clear FP
  have FP := FP2
  clear FP2
  have FX2 := Lib.hid (FX.out.next hb9)
  clear FX
  have FX := FX2
  clear FX2
  have F12 := Lib.hid (F1.out.next hb9)
  clear F1
  have F1 := F12
  clear F12
  have F22 := Lib.hid (F2.out.next hb9)
  clear F2
  have F2 := F22
  clear F22
  have F32 := Lib.hid (F3.out.next hb9)
  clear F3
  have F3 := F32
  clear F32
  have F42 := Lib.hid (F4.out.next hb9)
  clear F4
  have F4 := F42
  clear F42
  clear hb9
  have F5 := Lib.hid hr9
  have F5c := Lib.hid hc9
  have F5z := Lib.hid hnil9
  clear hr9 hc9 hnil9
  go_wp2_with fail
  refine (calls_bool (H.right _ _ _ _ _ FX.out HL.out) rfl).mono ?_
  rintro e w10 ⟨rfl, hb10⟩
  have hBz := HB.out.size
  have HB2 := Lib.hid (HB.out.trans (hb10.mono hBz))
  clear HB hBz
  have HB := HB2
  clear HB2
  have FP2 := Lib.hid (FP.out.next hb10)
  clear FP
  have FP := FP2
  clear FP2
  have FX2 := Lib.hid (FX.out.next hb10)
  clear FX
  have FX := FX2
  clear FX2
  have F12 := Lib.hid (F1.out.next hb10)
  clear F1
  have F1 := F12
  clear F12
  have F22 := Lib.hid (F2.out.next hb10)
  clear F2
  have F2 := F22
  clear F22
  have F32 := Lib.hid (F3.out.next hb10)
  clear F3
  have F3 := F32
  clear F32
  have F42 := Lib.hid (F4.out.next hb10)
  clear F4
  have F4 := F42
  clear F42
  have F52 := Lib.hid (F5.out.next hb10)
  clear F5
  have F5 := F52
  clear F52
  clear hb10
  go_wp2_with fail
  refine (calls_bool (s_right FP.out HL.out) rfl).mono ?_
  rintro e w11 ⟨rfl, hb11⟩
  have hBz := HB.out.size
  have HB2 := Lib.hid (HB.out.trans (hb11.mono hBz))
  clear HB hBz
  have HB := HB2
  clear HB2
  have FP2 := Lib.hid (FP.out.next hb11)
  clear FP
  have FP := FP2
  clear FP2
  have FX2 := Lib.hid (FX.out.next hb11)
  clear FX
  have FX := FX2
  clear FX2
  have F12 := Lib.hid (F1.out.next hb11)
  clear F1
  have F1 := F12
  clear F12
  have F22 := Lib.hid (F2.out.next hb11)
  clear F2
  have F2 := F22
  clear F22
  have F32 := Lib.hid (F3.out.next hb11)
  clear F3
  have F3 := F32
  clear F32
  have F42 := Lib.hid (F4.out.next hb11)
  clear F4
  have F4 := F42
  clear F42
  have F52 := Lib.hid (F5.out.next hb11)
  clear F5
  have F5 := F52
  clear F52
  clear hb11
  go_wp2_with fail
  refine (calls_int (H.at_ _ _ _ _ a _ FX.out HL.out H_a.out) rfl).mono ?_
  rintro e w12 ⟨rfl, hb12⟩
  have hBz := HB.out.size
  have HB2 := Lib.hid (HB.out.trans (hb12.mono hBz))
  clear HB hBz
  have HB := HB2
  clear HB2
  have FP2 := Lib.hid (FP.out.next hb12)
  clear FP
  have FP := FP2
  clear FP2
  have FX2 := Lib.hid (FX.out.next hb12)
  clear FX
  have FX := FX2
  clear FX2
  have F12 := Lib.hid (F1.out.next hb12)
  clear F1
  have F1 := F12
  clear F12
  have F22 := Lib.hid (F2.out.next hb12)
  clear F2
  have F2 := F22
  clear F22
  have F32 := Lib.hid (F3.out.next hb12)
  clear F3
  have F3 := F32
  clear F32
  have F42 := Lib.hid (F4.out.next hb12)
  clear F4
  have F4 := F42
  clear F42
  have F52 := Lib.hid (F5.out.next hb12)
  clear F5
  have F5 := F52
  clear F52
  clear hb12
  go_wp2_with fail
  refine (calls_int (s_at FP.out HL.out) rfl).mono ?_
  rintro e w13 ⟨rfl, hb13⟩
  have hBz := HB.out.size
  have HB2 := Lib.hid (HB.out.trans (hb13.mono hBz))
  clear HB hBz
  have HB := HB2
  clear HB2
  have FP2 := Lib.hid (FP.out.next hb13)
  clear FP
  have FP := FP2
  clear FP2
  have FX2 := Lib.hid (FX.out.next hb13)
  clear FX
  have FX := FX2
  clear FX2
  have F12 := Lib.hid (F1.out.next hb13)
  clear F1
  have F1 := F12
  clear F12
  have F22 := Lib.hid (F2.out.next hb13)
  clear F2
  have F2 := F22
  clear F22
  have F32 := Lib.hid (F3.out.next hb13)
  clear F3
  have F3 := F32
  clear F32
  have F42 := Lib.hid (F4.out.next hb13)
  clear F4
  have F4 := F42
  clear F42
  have F52 := Lib.hid (F5.out.next hb13)
  clear F5
  have F5 := F52
  clear F52
  clear hb13
  go_wp2_with fail
  refine (s_same F1.out F2.out HQ1.out HQ1.out rfl).mono ?_
  rintro e w14 ⟨rfl, hb14⟩
  have hBz := HB.out.size
  have HB2 := Lib.hid (HB.out.trans (hb14.mono hBz))
  clear HB hBz
  have HB := HB2
  clear HB2
  have FP2 := Lib.hid (FP.out.next hb14)
  clear FP
  have FP := FP2
  clear FP2
  have FX2 := Lib.hid (FX.out.next hb14)
  clear FX
  have FX := FX2
  clear FX2
  have F12 := Lib.hid (F1.out.next hb14)
  clear F1
  have F1 := F12
  clear F12
  have F22 := Lib.hid (F2.out.next hb14)
  clear F2
  have F2 := F22
  clear F22
  have F32 := Lib.hid (F3.out.next hb14)
  clear F3
  have F3 := F32
  clear F32
  have F42 := Lib.hid (F4.out.next hb14)
  clear F4
  have F4 := F42
  clear F42
  have F52 := Lib.hid (F5.out.next hb14)
  clear F5
  have F5 := F52
  clear F52
  clear hb14
  go_wp2_with fail
  refine (s_same F3.out F4.out HQ2.out HQ2.out rfl).mono ?_
  rintro e w15 ⟨rfl, hb15⟩
  have hBz := HB.out.size
  have HB2 := Lib.hid (HB.out.trans (hb15.mono hBz))
  clear HB hBz
  have HB := HB2
  clear HB2
  have FP2 := Lib.hid (FP.out.next hb15)
  clear FP
  have FP := FP2
  clear FP2
  have FX2 := Lib.hid (FX.out.next hb15)
  clear FX
  have FX := FX2
  clear FX2
  have F12 := Lib.hid (F1.out.next hb15)
  clear F1
  have F1 := F12
  clear F12
  have F22 := Lib.hid (F2.out.next hb15)
  clear F2
  have F2 := F22
  clear F22
  have F32 := Lib.hid (F3.out.next hb15)
  clear F3
  have F3 := F32
  clear F32
  have F42 := Lib.hid (F4.out.next hb15)
  clear F4
  have F4 := F42
  clear F42
  have F52 := Lib.hid (F5.out.next hb15)
  clear F5
  have F5 := F52
  clear F52
  clear hb15
  go_wp2_with fail
  refine (s_same FX.out FP.out HL.out HL.out rfl).mono ?_
  rintro e w16 ⟨rfl, hb16⟩
  have hBz := HB.out.size
  have HB2 := Lib.hid (HB.out.trans (hb16.mono hBz))
  clear HB hBz
  have HB := HB2
  clear HB2
  have FP2 := Lib.hid (FP.out.next hb16)
  clear FP
  have FP := FP2
  clear FP2
  have FX2 := Lib.hid (FX.out.next hb16)
  clear FX
  have FX := FX2
  clear FX2
  have F12 := Lib.hid (F1.out.next hb16)
  clear F1
  have F1 := F12
  clear F12
  have F22 := Lib.hid (F2.out.next hb16)
  clear F2
  have F2 := F22
  clear F22
  have F32 := Lib.hid (F3.out.next hb16)
  clear F3
  have F3 := F32
  clear F32
  have F42 := Lib.hid (F4.out.next hb16)
  clear F4
  have F4 := F42
  clear F42
  have F52 := Lib.hid (F5.out.next hb16)
  clear F5
  have F5 := F52
  clear F52
  clear hb16
  go_wp2
  go_ret
  exact ⟨rfl, HB.out⟩

set_option maxRecDepth 100000 in
set_option maxHeartbeats 8000000 in
theorem sright_may_in (H : StepOk) (A : Option Addr) (n c : Nat) (p : List (Int × Int)) (a b k : Int) (w : World) (hr : RS w w.heap.size A n p) (hnil : A = none → c = 0) (hnc : n ≤ c) (hn2 : n ≤ 200) (ha : I64 a) (hb : I64 b) (hk : I64 k) (q1 q2 : List (Int × Int)) (e1 e2 : Int) (ht1 : takeR p a b k = (q1, e1)) (ht2 : giveR p a b k = (q2, e2)) (hq1 : q1.length ≤ 2000) (hq2 : q2.length ≤ 2000) (x : Int) (hle : leastE p a b = (x, 0)) (hmy : mayP p a b = true) (hlr : leastR p a b = x) (hnw : newR k = ([(0, k)], 0)) (hk0 : 0 ≤ k) (hk9 : k ≤ 1048576) :
    Calls Try.prog 3 #[.slice A n c, .int .i64 a, .int .i64 b, .int .i64 k] w fun e w' => e = .returned (.bool true) ∧ Below w.heap.size w w' := by
  have FP := Lib.hid hr
  have HN := Lib.hid hnil
  have HC := Lib.hid hnc
  have HL : Hid (n ≤ 2000) := Lib.hid (by omega)
  have HB := Lib.hid (Below.refl w.heap.size w)
  have H_a := Lib.hid ha
  have ha1 := ha.1
  have ha2 := ha.2
  have H_b := Lib.hid hb
  have hb1 := hb.1
  have hb2 := hb.2
  have H_k := Lib.hid hk
  have hk1 := hk.1
  have hk2 := hk.2
  have HT1 := Lib.hid ht1
  have HT2 := Lib.hid ht2
  have HQ1 := Lib.hid hq1
  have HQ2 := Lib.hid hq2
  have HLE := Lib.hid hle
  have HMY := Lib.hid hmy
  have HLR := Lib.hid hlr
  have HNW := Lib.hid hnw
  clear hr hnil hnc ha hb hk ht1 ht2 hq1 hq2 hle hmy hlr hnw
  obtain ⟨i0, hi0, hz0, hz1, hz2⟩ := info_parts step_info
  go_enter Try.func3, Try.ntmps3
  go_wp2_with fail
  refine (stepAwake_any H _).mono ?_
  rintro e w1 ⟨rfl, hb1⟩
  have hBz := HB.out.size
  have HB2 := Lib.hid (HB.out.trans (hb1.mono hBz))
  clear HB hBz
  have HB := HB2
  clear HB2
  have FP2 := Lib.hid (FP.out.next hb1)
  clear FP
  have FP := FP2
  clear FP2
  clear hb1
  go_wp2_with (at_builtin; refine wpList_append_RS _ rfl (.tmp 27) (.tmp 28) 22 rfl w1.heap.size 35 i0 (.agg #[.int .i64 0, .int .i64 0]) 16 Try.underlying22 hi0 hz0 hz1 hz2 rfl (.slice (some ⟨w1.heap.size, 0, none⟩) 0 0) 0 [] rfl (own_empty2 w1 _) w1.heap.size A n c p rfl (FP.out.below (Below.alloc (Below.refl _ _) (Nat.le_refl _) _)) HN.out (by unfold maxLen; omega) (by omega) (by simp) ?_; intro vx wx hownx hgx; refine Hid.out ?_)
  refine Lib.hid ?_
  have hbx : Below w1.heap.size w1 wx := (Below.alloc (Below.refl _ _) (Nat.le_refl _) _).grown hgx (by simp) (fun j hj => (Nat.le_of_eq (by simpa [Value.ownBlock] using hj)))
  rw [List.nil_append, Nat.zero_add] at hownx
  obtain ⟨AX, cX, rfl⟩ := own_form hownx
  have FX0 := Lib.hid (RS.of_own hownx)
  have FXc := Lib.hid (own_cap hownx)
  have FXz : Hid (AX = none → cX = 0) := Lib.hid (own_nil hownx)
  clear hownx hgx
  have hBz := HB.out.size
  have HB2 := Lib.hid (HB.out.trans (hbx.mono hBz))
  clear HB hBz
  have HB := HB2
  clear HB2
  have FP2 := Lib.hid (FP.out.next hbx)
  clear FP
  have FP := FP2
  clear FP2
  clear hbx
  have FX := FX0
  clear FX0
  go_wp2_with fail
  refine (calls_spost (H.take _ _ _ _ a b k _ FX.out FXz.out FXc.out HL.out H_a.out H_b.out H_k.out) HT1.out).mono ?_
  rintro e w2 ⟨⟨A2, c2, rfl, hr2, hnil2, hc2⟩, hb2⟩
  have hBz := HB.out.size
  have HB2 := Lib.hid (HB.out.trans (hb2.mono hBz))
  clear HB hBz
  have HB := HB2
  clear HB2
  have FP2 := Lib.hid (FP.out.next hb2)
  clear FP
  have FP := FP2
  clear FP2
  have FX2 := Lib.hid (FX.out.next hb2)
  clear FX
  have FX := FX2
  clear FX2
  clear hb2
  have F1 := Lib.hid hr2
  have F1c := Lib.hid hc2
  have F1z := Lib.hid hnil2
  clear hr2 hc2 hnil2
  go_wp2_with fail
  refine (calls_spost (s_take FP.out HN.out HC.out HL.out H_k.out) HT1.out).mono ?_
  rintro e w3 ⟨⟨A3, c3, rfl, hr3, hnil3, hc3⟩, hb3⟩
  have hBz := HB.out.size
  have HB2 := Lib.hid (HB.out.trans (hb3.mono hBz))
  clear HB hBz
  have HB := HB2
  clear HB2
  have FP2 := Lib.hid (FP.out.next hb3)
  clear FP
  have FP := FP2
  clear FP2
  have FX2 := Lib.hid (FX.out.next hb3)
  clear FX
  have FX := FX2
  clear FX2
  have F12 := Lib.hid (F1.out.next hb3)
  clear F1
  have F1 := F12
  clear F12
  clear hb3
  have F2 := Lib.hid hr3
  have F2c := Lib.hid hc3
  have F2z := Lib.hid hnil3
  clear hr3 hc3 hnil3
  go_wp2_with fail
  refine (calls_spost (H.give _ _ _ _ a b k _ FX.out FXz.out FXc.out HL.out H_a.out H_b.out H_k.out) HT2.out).mono ?_
  rintro e w4 ⟨⟨A4, c4, rfl, hr4, hnil4, hc4⟩, hb4⟩
  have hBz := HB.out.size
  have HB2 := Lib.hid (HB.out.trans (hb4.mono hBz))
  clear HB hBz
  have HB := HB2
  clear HB2
  have FP2 := Lib.hid (FP.out.next hb4)
  clear FP
  have FP := FP2
  clear FP2
  have FX2 := Lib.hid (FX.out.next hb4)
  clear FX
  have FX := FX2
  clear FX2
  have F12 := Lib.hid (F1.out.next hb4)
  clear F1
  have F1 := F12
  clear F12
  have F22 := Lib.hid (F2.out.next hb4)
  clear F2
  have F2 := F22
  clear F22
  clear hb4
  have F3 := Lib.hid hr4
  have F3c := Lib.hid hc4
  have F3z := Lib.hid hnil4
  clear hr4 hc4 hnil4
  go_wp2_with fail
  refine (calls_spost (s_give FP.out HN.out HC.out HL.out H_k.out) HT2.out).mono ?_
  rintro e w5 ⟨⟨A5, c5, rfl, hr5, hnil5, hc5⟩, hb5⟩
  have hBz := HB.out.size
  have HB2 := Lib.hid (HB.out.trans (hb5.mono hBz))
  clear HB hBz
  have HB := HB2
  clear HB2
  have FP2 := Lib.hid (FP.out.next hb5)
  clear FP
  have FP := FP2
  clear FP2
  have FX2 := Lib.hid (FX.out.next hb5)
  clear FX
  have FX := FX2
  clear FX2
  have F12 := Lib.hid (F1.out.next hb5)
  clear F1
  have F1 := F12
  clear F12
  have F22 := Lib.hid (F2.out.next hb5)
  clear F2
  have F2 := F22
  clear F22
  have F32 := Lib.hid (F3.out.next hb5)
  clear F3
  have F3 := F32
  clear F32
  clear hb5
  have F4 := Lib.hid hr5
  have F4c := Lib.hid hc5
  have F4z := Lib.hid hnil5
  clear hr5 hc5 hnil5
  go_wp2_with fail
  refine (calls_pair (H.least _ _ _ _ a b _ FX.out FXc.out HL.out H_a.out H_b.out) HLE.out).mono ?_
  rintro e w6 ⟨rfl, hb6⟩
  have hBz := HB.out.size
  have HB2 := Lib.hid (HB.out.trans (hb6.mono hBz))
  clear HB hBz
  have HB := HB2
  clear HB2
  have FP2 := Lib.hid (FP.out.next hb6)
  clear FP
  have FP := FP2
  clear FP2
  have FX2 := Lib.hid (FX.out.next hb6)
  clear FX
  have FX := FX2
  clear FX2
  have F12 := Lib.hid (F1.out.next hb6)
  clear F1
  have F1 := F12
  clear F12
  have F22 := Lib.hid (F2.out.next hb6)
  clear F2
  have F2 := F22
  clear F22
  have F32 := Lib.hid (F3.out.next hb6)
  clear F3
  have F3 := F32
  clear F32
  have F42 := Lib.hid (F4.out.next hb6)
  clear F4
  have F4 := F42
  clear F42
  clear hb6
  go_wp2_with fail
  refine (calls_bool (s_may FP.out HL.out) HMY.out).mono ?_
  rintro e w7 ⟨rfl, hb7⟩
  have hBz := HB.out.size
  have HB2 := Lib.hid (HB.out.trans (hb7.mono hBz))
  clear HB hBz
  have HB := HB2
  clear HB2
  have FP2 := Lib.hid (FP.out.next hb7)
  clear FP
  have FP := FP2
  clear FP2
  have FX2 := Lib.hid (FX.out.next hb7)
  clear FX
  have FX := FX2
  clear FX2
  have F12 := Lib.hid (F1.out.next hb7)
  clear F1
  have F1 := F12
  clear F12
  have F22 := Lib.hid (F2.out.next hb7)
  clear F2
  have F2 := F22
  clear F22
  have F32 := Lib.hid (F3.out.next hb7)
  clear F3
  have F3 := F32
  clear F32
  have F42 := Lib.hid (F4.out.next hb7)
  clear F4
  have F4 := F42
  clear F42
  clear hb7
  go_wp2_with fail
  refine (calls_int (s_least FP.out HL.out) HLR.out).mono ?_
  rintro e w8 ⟨rfl, hb8⟩
  have hBz := HB.out.size
  have HB2 := Lib.hid (HB.out.trans (hb8.mono hBz))
  clear HB hBz
  have HB := HB2
  clear HB2
  have FP2 := Lib.hid (FP.out.next hb8)
  clear FP
  have FP := FP2
  clear FP2
  have FX2 := Lib.hid (FX.out.next hb8)
  clear FX
  have FX := FX2
  clear FX2
  have F12 := Lib.hid (F1.out.next hb8)
  clear F1
  have F1 := F12
  clear F12
  have F22 := Lib.hid (F2.out.next hb8)
  clear F2
  have F2 := F22
  clear F22
  have F32 := Lib.hid (F3.out.next hb8)
  clear F3
  have F3 := F32
  clear F32
  have F42 := Lib.hid (F4.out.next hb8)
  clear F4
  have F4 := F42
  clear F42
  clear hb8
  go_wp2_with fail
  refine (calls_spost (H.new k _ H_k.out) HNW.out).mono ?_
  rintro e w9 ⟨⟨A9, c9, rfl, hr9, hnil9, hc9⟩, hb9⟩
  have hBz := HB.out.size
  have HB2 := Lib.hid (HB.out.trans (hb9.mono hBz))
  clear HB hBz
  have HB := HB2
  clear HB2
  have FP2 := Lib.hid (FP.out.next hb9)
  clear FP
  have FP := FP2
  clear FP2
  have FX2 := Lib.hid (FX.out.next hb9)
  clear FX
  have FX := FX2
  clear FX2
  have F12 := Lib.hid (F1.out.next hb9)
  clear F1
  have F1 := F12
  clear F12
  have F22 := Lib.hid (F2.out.next hb9)
  clear F2
  have F2 := F22
  clear F22
  have F32 := Lib.hid (F3.out.next hb9)
  clear F3
  have F3 := F32
  clear F32
  have F42 := Lib.hid (F4.out.next hb9)
  clear F4
  have F4 := F42
  clear F42
  clear hb9
  have F5 := Lib.hid hr9
  have F5c := Lib.hid hc9
  have F5z := Lib.hid hnil9
  clear hr9 hc9 hnil9
  obtain ⟨b5, o5, e5, hb5, hc5⟩ := F5.out.2 (by simp)
  have hc50 : w9.cell? ⟨b5, o5 + 1, none⟩ = some (.int .i64 k) := by have := (hc5 0 (by simp)).2; simpa using this
  subst e5
  clear hc5
  go_wp2_with fail
  refine (calls_bool (H.right _ _ _ _ _ FX.out HL.out) rfl).mono ?_
  rintro e w10 ⟨rfl, hb10⟩
  have hBz := HB.out.size
  have HB2 := Lib.hid (HB.out.trans (hb10.mono hBz))
  clear HB hBz
  have HB := HB2
  clear HB2
  have FP2 := Lib.hid (FP.out.next hb10)
  clear FP
  have FP := FP2
  clear FP2
  have FX2 := Lib.hid (FX.out.next hb10)
  clear FX
  have FX := FX2
  clear FX2
  have F12 := Lib.hid (F1.out.next hb10)
  clear F1
  have F1 := F12
  clear F12
  have F22 := Lib.hid (F2.out.next hb10)
  clear F2
  have F2 := F22
  clear F22
  have F32 := Lib.hid (F3.out.next hb10)
  clear F3
  have F3 := F32
  clear F32
  have F42 := Lib.hid (F4.out.next hb10)
  clear F4
  have F4 := F42
  clear F42
  have F52 := Lib.hid (F5.out.next hb10)
  clear F5
  have F5 := F52
  clear F52
  clear hb10
  go_wp2_with fail
  refine (calls_bool (s_right FP.out HL.out) rfl).mono ?_
  rintro e w11 ⟨rfl, hb11⟩
  have hBz := HB.out.size
  have HB2 := Lib.hid (HB.out.trans (hb11.mono hBz))
  clear HB hBz
  have HB := HB2
  clear HB2
  have FP2 := Lib.hid (FP.out.next hb11)
  clear FP
  have FP := FP2
  clear FP2
  have FX2 := Lib.hid (FX.out.next hb11)
  clear FX
  have FX := FX2
  clear FX2
  have F12 := Lib.hid (F1.out.next hb11)
  clear F1
  have F1 := F12
  clear F12
  have F22 := Lib.hid (F2.out.next hb11)
  clear F2
  have F2 := F22
  clear F22
  have F32 := Lib.hid (F3.out.next hb11)
  clear F3
  have F3 := F32
  clear F32
  have F42 := Lib.hid (F4.out.next hb11)
  clear F4
  have F4 := F42
  clear F42
  have F52 := Lib.hid (F5.out.next hb11)
  clear F5
  have F5 := F52
  clear F52
  clear hb11
  go_wp2_with fail
  refine (calls_int (H.at_ _ _ _ _ a _ FX.out HL.out H_a.out) rfl).mono ?_
  rintro e w12 ⟨rfl, hb12⟩
  have hBz := HB.out.size
  have HB2 := Lib.hid (HB.out.trans (hb12.mono hBz))
  clear HB hBz
  have HB := HB2
  clear HB2
  have FP2 := Lib.hid (FP.out.next hb12)
  clear FP
  have FP := FP2
  clear FP2
  have FX2 := Lib.hid (FX.out.next hb12)
  clear FX
  have FX := FX2
  clear FX2
  have F12 := Lib.hid (F1.out.next hb12)
  clear F1
  have F1 := F12
  clear F12
  have F22 := Lib.hid (F2.out.next hb12)
  clear F2
  have F2 := F22
  clear F22
  have F32 := Lib.hid (F3.out.next hb12)
  clear F3
  have F3 := F32
  clear F32
  have F42 := Lib.hid (F4.out.next hb12)
  clear F4
  have F4 := F42
  clear F42
  have F52 := Lib.hid (F5.out.next hb12)
  clear F5
  have F5 := F52
  clear F52
  clear hb12
  go_wp2_with fail
  refine (calls_int (s_at FP.out HL.out) rfl).mono ?_
  rintro e w13 ⟨rfl, hb13⟩
  have hBz := HB.out.size
  have HB2 := Lib.hid (HB.out.trans (hb13.mono hBz))
  clear HB hBz
  have HB := HB2
  clear HB2
  have FP2 := Lib.hid (FP.out.next hb13)
  clear FP
  have FP := FP2
  clear FP2
  have FX2 := Lib.hid (FX.out.next hb13)
  clear FX
  have FX := FX2
  clear FX2
  have F12 := Lib.hid (F1.out.next hb13)
  clear F1
  have F1 := F12
  clear F12
  have F22 := Lib.hid (F2.out.next hb13)
  clear F2
  have F2 := F22
  clear F22
  have F32 := Lib.hid (F3.out.next hb13)
  clear F3
  have F3 := F32
  clear F32
  have F42 := Lib.hid (F4.out.next hb13)
  clear F4
  have F4 := F42
  clear F42
  have F52 := Lib.hid (F5.out.next hb13)
  clear F5
  have F5 := F52
  clear F52
  clear hb13
  go_wp2_with fail
  refine (s_same F1.out F2.out HQ1.out HQ1.out rfl).mono ?_
  rintro e w14 ⟨rfl, hb14⟩
  have hBz := HB.out.size
  have HB2 := Lib.hid (HB.out.trans (hb14.mono hBz))
  clear HB hBz
  have HB := HB2
  clear HB2
  have FP2 := Lib.hid (FP.out.next hb14)
  clear FP
  have FP := FP2
  clear FP2
  have FX2 := Lib.hid (FX.out.next hb14)
  clear FX
  have FX := FX2
  clear FX2
  have F12 := Lib.hid (F1.out.next hb14)
  clear F1
  have F1 := F12
  clear F12
  have F22 := Lib.hid (F2.out.next hb14)
  clear F2
  have F2 := F22
  clear F22
  have F32 := Lib.hid (F3.out.next hb14)
  clear F3
  have F3 := F32
  clear F32
  have F42 := Lib.hid (F4.out.next hb14)
  clear F4
  have F4 := F42
  clear F42
  have F52 := Lib.hid (F5.out.next hb14)
  clear F5
  have F5 := F52
  clear F52
  clear hb14
  go_wp2_with fail
  refine (s_same F3.out F4.out HQ2.out HQ2.out rfl).mono ?_
  rintro e w15 ⟨rfl, hb15⟩
  have hBz := HB.out.size
  have HB2 := Lib.hid (HB.out.trans (hb15.mono hBz))
  clear HB hBz
  have HB := HB2
  clear HB2
  have FP2 := Lib.hid (FP.out.next hb15)
  clear FP
  have FP := FP2
  clear FP2
  have FX2 := Lib.hid (FX.out.next hb15)
  clear FX
  have FX := FX2
  clear FX2
  have F12 := Lib.hid (F1.out.next hb15)
  clear F1
  have F1 := F12
  clear F12
  have F22 := Lib.hid (F2.out.next hb15)
  clear F2
  have F2 := F22
  clear F22
  have F32 := Lib.hid (F3.out.next hb15)
  clear F3
  have F3 := F32
  clear F32
  have F42 := Lib.hid (F4.out.next hb15)
  clear F4
  have F4 := F42
  clear F42
  have F52 := Lib.hid (F5.out.next hb15)
  clear F5
  have F5 := F52
  clear F52
  clear hb15
  go_wp2_with fail
  refine (s_same FX.out FP.out HL.out HL.out rfl).mono ?_
  rintro e w16 ⟨rfl, hb16⟩
  have hBz := HB.out.size
  have HB2 := Lib.hid (HB.out.trans (hb16.mono hBz))
  clear HB hBz
  have HB := HB2
  clear HB2
  have FP2 := Lib.hid (FP.out.next hb16)
  clear FP
  have FP := FP2
  clear FP2
  have FX2 := Lib.hid (FX.out.next hb16)
  clear FX
  have FX := FX2
  clear FX2
  have F12 := Lib.hid (F1.out.next hb16)
  clear F1
  have F1 := F12
  clear F12
  have F22 := Lib.hid (F2.out.next hb16)
  clear F2
  have F2 := F22
  clear F22
  have F32 := Lib.hid (F3.out.next hb16)
  clear F3
  have F3 := F32
  clear F32
  have F42 := Lib.hid (F4.out.next hb16)
  clear F4
  have F4 := F42
  clear F42
  have F52 := Lib.hid (F5.out.next hb16)
  clear F5
  have F5 := F52
  clear F52
  clear hb16
  go_wp2
  go_ret
  exact ⟨rfl, HB.out⟩

set_option maxRecDepth 100000 in
set_option maxHeartbeats 8000000 in
theorem sright_may_high (H : StepOk) (A : Option Addr) (n c : Nat) (p : List (Int × Int)) (a b k : Int) (w : World) (hr : RS w w.heap.size A n p) (hnil : A = none → c = 0) (hnc : n ≤ c) (hn2 : n ≤ 200) (ha : I64 a) (hb : I64 b) (hk : I64 k) (q1 q2 : List (Int × Int)) (e1 e2 : Int) (ht1 : takeR p a b k = (q1, e1)) (ht2 : giveR p a b k = (q2, e2)) (hq1 : q1.length ≤ 2000) (hq2 : q2.length ≤ 2000) (x : Int) (hle : leastE p a b = (x, 0)) (hmy : mayP p a b = true) (hlr : leastR p a b = x) (hnw : newR k = ([], 1)) (hk0 : 0 ≤ k) (hk9 : 1048576 < k) :
    Calls Try.prog 3 #[.slice A n c, .int .i64 a, .int .i64 b, .int .i64 k] w fun e w' => e = .returned (.bool true) ∧ Below w.heap.size w w' := by
  have FP := Lib.hid hr
  have HN := Lib.hid hnil
  have HC := Lib.hid hnc
  have HL : Hid (n ≤ 2000) := Lib.hid (by omega)
  have HB := Lib.hid (Below.refl w.heap.size w)
  have H_a := Lib.hid ha
  have ha1 := ha.1
  have ha2 := ha.2
  have H_b := Lib.hid hb
  have hb1 := hb.1
  have hb2 := hb.2
  have H_k := Lib.hid hk
  have hk1 := hk.1
  have hk2 := hk.2
  have HT1 := Lib.hid ht1
  have HT2 := Lib.hid ht2
  have HQ1 := Lib.hid hq1
  have HQ2 := Lib.hid hq2
  have HLE := Lib.hid hle
  have HMY := Lib.hid hmy
  have HLR := Lib.hid hlr
  have HNW := Lib.hid hnw
  clear hr hnil hnc ha hb hk ht1 ht2 hq1 hq2 hle hmy hlr hnw
  obtain ⟨i0, hi0, hz0, hz1, hz2⟩ := info_parts step_info
  go_enter Try.func3, Try.ntmps3
  go_wp2_with fail
  refine (stepAwake_any H _).mono ?_
  rintro e w1 ⟨rfl, hb1⟩
  have hBz := HB.out.size
  have HB2 := Lib.hid (HB.out.trans (hb1.mono hBz))
  clear HB hBz
  have HB := HB2
  clear HB2
  have FP2 := Lib.hid (FP.out.next hb1)
  clear FP
  have FP := FP2
  clear FP2
  clear hb1
  go_wp2_with (at_builtin; refine wpList_append_RS _ rfl (.tmp 27) (.tmp 28) 22 rfl w1.heap.size 35 i0 (.agg #[.int .i64 0, .int .i64 0]) 16 Try.underlying22 hi0 hz0 hz1 hz2 rfl (.slice (some ⟨w1.heap.size, 0, none⟩) 0 0) 0 [] rfl (own_empty2 w1 _) w1.heap.size A n c p rfl (FP.out.below (Below.alloc (Below.refl _ _) (Nat.le_refl _) _)) HN.out (by unfold maxLen; omega) (by omega) (by simp) ?_; intro vx wx hownx hgx; refine Hid.out ?_)
  refine Lib.hid ?_
  have hbx : Below w1.heap.size w1 wx := (Below.alloc (Below.refl _ _) (Nat.le_refl _) _).grown hgx (by simp) (fun j hj => (Nat.le_of_eq (by simpa [Value.ownBlock] using hj)))
  rw [List.nil_append, Nat.zero_add] at hownx
  obtain ⟨AX, cX, rfl⟩ := own_form hownx
  have FX0 := Lib.hid (RS.of_own hownx)
  have FXc := Lib.hid (own_cap hownx)
  have FXz : Hid (AX = none → cX = 0) := Lib.hid (own_nil hownx)
  clear hownx hgx
  have hBz := HB.out.size
  have HB2 := Lib.hid (HB.out.trans (hbx.mono hBz))
  clear HB hBz
  have HB := HB2
  clear HB2
  have FP2 := Lib.hid (FP.out.next hbx)
  clear FP
  have FP := FP2
  clear FP2
  clear hbx
  have FX := FX0
  clear FX0
  go_wp2_with fail
  refine (calls_spost (H.take _ _ _ _ a b k _ FX.out FXz.out FXc.out HL.out H_a.out H_b.out H_k.out) HT1.out).mono ?_
  rintro e w2 ⟨⟨A2, c2, rfl, hr2, hnil2, hc2⟩, hb2⟩
  have hBz := HB.out.size
  have HB2 := Lib.hid (HB.out.trans (hb2.mono hBz))
  clear HB hBz
  have HB := HB2
  clear HB2
  have FP2 := Lib.hid (FP.out.next hb2)
  clear FP
  have FP := FP2
  clear FP2
  have FX2 := Lib.hid (FX.out.next hb2)
  clear FX
  have FX := FX2
  clear FX2
  clear hb2
  have F1 := Lib.hid hr2
  have F1c := Lib.hid hc2
  have F1z := Lib.hid hnil2
  clear hr2 hc2 hnil2
  go_wp2_with fail
  refine (calls_spost (s_take FP.out HN.out HC.out HL.out H_k.out) HT1.out).mono ?_
  rintro e w3 ⟨⟨A3, c3, rfl, hr3, hnil3, hc3⟩, hb3⟩
  have hBz := HB.out.size
  have HB2 := Lib.hid (HB.out.trans (hb3.mono hBz))
  clear HB hBz
  have HB := HB2
  clear HB2
  have FP2 := Lib.hid (FP.out.next hb3)
  clear FP
  have FP := FP2
  clear FP2
  have FX2 := Lib.hid (FX.out.next hb3)
  clear FX
  have FX := FX2
  clear FX2
  have F12 := Lib.hid (F1.out.next hb3)
  clear F1
  have F1 := F12
  clear F12
  clear hb3
  have F2 := Lib.hid hr3
  have F2c := Lib.hid hc3
  have F2z := Lib.hid hnil3
  clear hr3 hc3 hnil3
  go_wp2_with fail
  refine (calls_spost (H.give _ _ _ _ a b k _ FX.out FXz.out FXc.out HL.out H_a.out H_b.out H_k.out) HT2.out).mono ?_
  rintro e w4 ⟨⟨A4, c4, rfl, hr4, hnil4, hc4⟩, hb4⟩
  have hBz := HB.out.size
  have HB2 := Lib.hid (HB.out.trans (hb4.mono hBz))
  clear HB hBz
  have HB := HB2
  clear HB2
  have FP2 := Lib.hid (FP.out.next hb4)
  clear FP
  have FP := FP2
  clear FP2
  have FX2 := Lib.hid (FX.out.next hb4)
  clear FX
  have FX := FX2
  clear FX2
  have F12 := Lib.hid (F1.out.next hb4)
  clear F1
  have F1 := F12
  clear F12
  have F22 := Lib.hid (F2.out.next hb4)
  clear F2
  have F2 := F22
  clear F22
  clear hb4
  have F3 := Lib.hid hr4
  have F3c := Lib.hid hc4
  have F3z := Lib.hid hnil4
  clear hr4 hc4 hnil4
  go_wp2_with fail
  refine (calls_spost (s_give FP.out HN.out HC.out HL.out H_k.out) HT2.out).mono ?_
  rintro e w5 ⟨⟨A5, c5, rfl, hr5, hnil5, hc5⟩, hb5⟩
  have hBz := HB.out.size
  have HB2 := Lib.hid (HB.out.trans (hb5.mono hBz))
  clear HB hBz
  have HB := HB2
  clear HB2
  have FP2 := Lib.hid (FP.out.next hb5)
  clear FP
  have FP := FP2
  clear FP2
  have FX2 := Lib.hid (FX.out.next hb5)
  clear FX
  have FX := FX2
  clear FX2
  have F12 := Lib.hid (F1.out.next hb5)
  clear F1
  have F1 := F12
  clear F12
  have F22 := Lib.hid (F2.out.next hb5)
  clear F2
  have F2 := F22
  clear F22
  have F32 := Lib.hid (F3.out.next hb5)
  clear F3
  have F3 := F32
  clear F32
  clear hb5
  have F4 := Lib.hid hr5
  have F4c := Lib.hid hc5
  have F4z := Lib.hid hnil5
  clear hr5 hc5 hnil5
  go_wp2_with fail
  refine (calls_pair (H.least _ _ _ _ a b _ FX.out FXc.out HL.out H_a.out H_b.out) HLE.out).mono ?_
  rintro e w6 ⟨rfl, hb6⟩
  have hBz := HB.out.size
  have HB2 := Lib.hid (HB.out.trans (hb6.mono hBz))
  clear HB hBz
  have HB := HB2
  clear HB2
  have FP2 := Lib.hid (FP.out.next hb6)
  clear FP
  have FP := FP2
  clear FP2
  have FX2 := Lib.hid (FX.out.next hb6)
  clear FX
  have FX := FX2
  clear FX2
  have F12 := Lib.hid (F1.out.next hb6)
  clear F1
  have F1 := F12
  clear F12
  have F22 := Lib.hid (F2.out.next hb6)
  clear F2
  have F2 := F22
  clear F22
  have F32 := Lib.hid (F3.out.next hb6)
  clear F3
  have F3 := F32
  clear F32
  have F42 := Lib.hid (F4.out.next hb6)
  clear F4
  have F4 := F42
  clear F42
  clear hb6
  go_wp2_with fail
  refine (calls_bool (s_may FP.out HL.out) HMY.out).mono ?_
  rintro e w7 ⟨rfl, hb7⟩
  have hBz := HB.out.size
  have HB2 := Lib.hid (HB.out.trans (hb7.mono hBz))
  clear HB hBz
  have HB := HB2
  clear HB2
  have FP2 := Lib.hid (FP.out.next hb7)
  clear FP
  have FP := FP2
  clear FP2
  have FX2 := Lib.hid (FX.out.next hb7)
  clear FX
  have FX := FX2
  clear FX2
  have F12 := Lib.hid (F1.out.next hb7)
  clear F1
  have F1 := F12
  clear F12
  have F22 := Lib.hid (F2.out.next hb7)
  clear F2
  have F2 := F22
  clear F22
  have F32 := Lib.hid (F3.out.next hb7)
  clear F3
  have F3 := F32
  clear F32
  have F42 := Lib.hid (F4.out.next hb7)
  clear F4
  have F4 := F42
  clear F42
  clear hb7
  go_wp2_with fail
  refine (calls_int (s_least FP.out HL.out) HLR.out).mono ?_
  rintro e w8 ⟨rfl, hb8⟩
  have hBz := HB.out.size
  have HB2 := Lib.hid (HB.out.trans (hb8.mono hBz))
  clear HB hBz
  have HB := HB2
  clear HB2
  have FP2 := Lib.hid (FP.out.next hb8)
  clear FP
  have FP := FP2
  clear FP2
  have FX2 := Lib.hid (FX.out.next hb8)
  clear FX
  have FX := FX2
  clear FX2
  have F12 := Lib.hid (F1.out.next hb8)
  clear F1
  have F1 := F12
  clear F12
  have F22 := Lib.hid (F2.out.next hb8)
  clear F2
  have F2 := F22
  clear F22
  have F32 := Lib.hid (F3.out.next hb8)
  clear F3
  have F3 := F32
  clear F32
  have F42 := Lib.hid (F4.out.next hb8)
  clear F4
  have F4 := F42
  clear F42
  clear hb8
  go_wp2_with fail
  refine (calls_spost (H.new k _ H_k.out) HNW.out).mono ?_
  rintro e w9 ⟨⟨A9, c9, rfl, hr9, hnil9, hc9⟩, hb9⟩
  have hBz := HB.out.size
  have HB2 := Lib.hid (HB.out.trans (hb9.mono hBz))
  clear HB hBz
  have HB := HB2
  clear HB2
  have FP2 := Lib.hid (FP.out.next hb9)
  clear FP
  have FP := FP2
  clear FP2
  have FX2 := Lib.hid (FX.out.next hb9)
  clear FX
  have FX := FX2
  clear FX2
  have F12 := Lib.hid (F1.out.next hb9)
  clear F1
  have F1 := F12
  clear F12
  have F22 := Lib.hid (F2.out.next hb9)
  clear F2
  have F2 := F22
  clear F22
  have F32 := Lib.hid (F3.out.next hb9)
  clear F3
  have F3 := F32
  clear F32
  have F42 := Lib.hid (F4.out.next hb9)
  clear F4
  have F4 := F42
  clear F42
  clear hb9
  have F5 := Lib.hid hr9
  have F5c := Lib.hid hc9
  have F5z := Lib.hid hnil9
  clear hr9 hc9 hnil9
  go_wp2_with fail
  refine (calls_bool (H.right _ _ _ _ _ FX.out HL.out) rfl).mono ?_
  rintro e w10 ⟨rfl, hb10⟩
  have hBz := HB.out.size
  have HB2 := Lib.hid (HB.out.trans (hb10.mono hBz))
  clear HB hBz
  have HB := HB2
  clear HB2
  have FP2 := Lib.hid (FP.out.next hb10)
  clear FP
  have FP := FP2
  clear FP2
  have FX2 := Lib.hid (FX.out.next hb10)
  clear FX
  have FX := FX2
  clear FX2
  have F12 := Lib.hid (F1.out.next hb10)
  clear F1
  have F1 := F12
  clear F12
  have F22 := Lib.hid (F2.out.next hb10)
  clear F2
  have F2 := F22
  clear F22
  have F32 := Lib.hid (F3.out.next hb10)
  clear F3
  have F3 := F32
  clear F32
  have F42 := Lib.hid (F4.out.next hb10)
  clear F4
  have F4 := F42
  clear F42
  have F52 := Lib.hid (F5.out.next hb10)
  clear F5
  have F5 := F52
  clear F52
  clear hb10
  go_wp2_with fail
  refine (calls_bool (s_right FP.out HL.out) rfl).mono ?_
  rintro e w11 ⟨rfl, hb11⟩
  have hBz := HB.out.size
  have HB2 := Lib.hid (HB.out.trans (hb11.mono hBz))
  clear HB hBz
  have HB := HB2
  clear HB2
  have FP2 := Lib.hid (FP.out.next hb11)
  clear FP
  have FP := FP2
  clear FP2
  have FX2 := Lib.hid (FX.out.next hb11)
  clear FX
  have FX := FX2
  clear FX2
  have F12 := Lib.hid (F1.out.next hb11)
  clear F1
  have F1 := F12
  clear F12
  have F22 := Lib.hid (F2.out.next hb11)
  clear F2
  have F2 := F22
  clear F22
  have F32 := Lib.hid (F3.out.next hb11)
  clear F3
  have F3 := F32
  clear F32
  have F42 := Lib.hid (F4.out.next hb11)
  clear F4
  have F4 := F42
  clear F42
  have F52 := Lib.hid (F5.out.next hb11)
  clear F5
  have F5 := F52
  clear F52
  clear hb11
  go_wp2_with fail
  refine (calls_int (H.at_ _ _ _ _ a _ FX.out HL.out H_a.out) rfl).mono ?_
  rintro e w12 ⟨rfl, hb12⟩
  have hBz := HB.out.size
  have HB2 := Lib.hid (HB.out.trans (hb12.mono hBz))
  clear HB hBz
  have HB := HB2
  clear HB2
  have FP2 := Lib.hid (FP.out.next hb12)
  clear FP
  have FP := FP2
  clear FP2
  have FX2 := Lib.hid (FX.out.next hb12)
  clear FX
  have FX := FX2
  clear FX2
  have F12 := Lib.hid (F1.out.next hb12)
  clear F1
  have F1 := F12
  clear F12
  have F22 := Lib.hid (F2.out.next hb12)
  clear F2
  have F2 := F22
  clear F22
  have F32 := Lib.hid (F3.out.next hb12)
  clear F3
  have F3 := F32
  clear F32
  have F42 := Lib.hid (F4.out.next hb12)
  clear F4
  have F4 := F42
  clear F42
  have F52 := Lib.hid (F5.out.next hb12)
  clear F5
  have F5 := F52
  clear F52
  clear hb12
  go_wp2_with fail
  refine (calls_int (s_at FP.out HL.out) rfl).mono ?_
  rintro e w13 ⟨rfl, hb13⟩
  have hBz := HB.out.size
  have HB2 := Lib.hid (HB.out.trans (hb13.mono hBz))
  clear HB hBz
  have HB := HB2
  clear HB2
  have FP2 := Lib.hid (FP.out.next hb13)
  clear FP
  have FP := FP2
  clear FP2
  have FX2 := Lib.hid (FX.out.next hb13)
  clear FX
  have FX := FX2
  clear FX2
  have F12 := Lib.hid (F1.out.next hb13)
  clear F1
  have F1 := F12
  clear F12
  have F22 := Lib.hid (F2.out.next hb13)
  clear F2
  have F2 := F22
  clear F22
  have F32 := Lib.hid (F3.out.next hb13)
  clear F3
  have F3 := F32
  clear F32
  have F42 := Lib.hid (F4.out.next hb13)
  clear F4
  have F4 := F42
  clear F42
  have F52 := Lib.hid (F5.out.next hb13)
  clear F5
  have F5 := F52
  clear F52
  clear hb13
  go_wp2_with fail
  refine (s_same F1.out F2.out HQ1.out HQ1.out rfl).mono ?_
  rintro e w14 ⟨rfl, hb14⟩
  have hBz := HB.out.size
  have HB2 := Lib.hid (HB.out.trans (hb14.mono hBz))
  clear HB hBz
  have HB := HB2
  clear HB2
  have FP2 := Lib.hid (FP.out.next hb14)
  clear FP
  have FP := FP2
  clear FP2
  have FX2 := Lib.hid (FX.out.next hb14)
  clear FX
  have FX := FX2
  clear FX2
  have F12 := Lib.hid (F1.out.next hb14)
  clear F1
  have F1 := F12
  clear F12
  have F22 := Lib.hid (F2.out.next hb14)
  clear F2
  have F2 := F22
  clear F22
  have F32 := Lib.hid (F3.out.next hb14)
  clear F3
  have F3 := F32
  clear F32
  have F42 := Lib.hid (F4.out.next hb14)
  clear F4
  have F4 := F42
  clear F42
  have F52 := Lib.hid (F5.out.next hb14)
  clear F5
  have F5 := F52
  clear F52
  clear hb14
  go_wp2_with fail
  refine (s_same F3.out F4.out HQ2.out HQ2.out rfl).mono ?_
  rintro e w15 ⟨rfl, hb15⟩
  have hBz := HB.out.size
  have HB2 := Lib.hid (HB.out.trans (hb15.mono hBz))
  clear HB hBz
  have HB := HB2
  clear HB2
  have FP2 := Lib.hid (FP.out.next hb15)
  clear FP
  have FP := FP2
  clear FP2
  have FX2 := Lib.hid (FX.out.next hb15)
  clear FX
  have FX := FX2
  clear FX2
  have F12 := Lib.hid (F1.out.next hb15)
  clear F1
  have F1 := F12
  clear F12
  have F22 := Lib.hid (F2.out.next hb15)
  clear F2
  have F2 := F22
  clear F22
  have F32 := Lib.hid (F3.out.next hb15)
  clear F3
  have F3 := F32
  clear F32
  have F42 := Lib.hid (F4.out.next hb15)
  clear F4
  have F4 := F42
  clear F42
  have F52 := Lib.hid (F5.out.next hb15)
  clear F5
  have F5 := F52
  clear F52
  clear hb15
  go_wp2_with fail
  refine (s_same FX.out FP.out HL.out HL.out rfl).mono ?_
  rintro e w16 ⟨rfl, hb16⟩
  have hBz := HB.out.size
  have HB2 := Lib.hid (HB.out.trans (hb16.mono hBz))
  clear HB hBz
  have HB := HB2
  clear HB2
  have FP2 := Lib.hid (FP.out.next hb16)
  clear FP
  have FP := FP2
  clear FP2
  have FX2 := Lib.hid (FX.out.next hb16)
  clear FX
  have FX := FX2
  clear FX2
  have F12 := Lib.hid (F1.out.next hb16)
  clear F1
  have F1 := F12
  clear F12
  have F22 := Lib.hid (F2.out.next hb16)
  clear F2
  have F2 := F22
  clear F22
  have F32 := Lib.hid (F3.out.next hb16)
  clear F3
  have F3 := F32
  clear F32
  have F42 := Lib.hid (F4.out.next hb16)
  clear F4
  have F4 := F42
  clear F42
  have F52 := Lib.hid (F5.out.next hb16)
  clear F5
  have F5 := F52
  clear F52
  clear hb16
  go_wp2
  go_ret
  exact ⟨rfl, HB.out⟩

set_option maxRecDepth 100000 in
set_option maxHeartbeats 8000000 in
theorem sright_not_low (H : StepOk) (A : Option Addr) (n c : Nat) (p : List (Int × Int)) (a b k : Int) (w : World) (hr : RS w w.heap.size A n p) (hnil : A = none → c = 0) (hnc : n ≤ c) (hn2 : n ≤ 200) (ha : I64 a) (hb : I64 b) (hk : I64 k) (q1 q2 : List (Int × Int)) (e1 e2 : Int) (ht1 : takeR p a b k = (q1, e1)) (ht2 : giveR p a b k = (q2, e2)) (hq1 : q1.length ≤ 2000) (hq2 : q2.length ≤ 2000) (hle : leastE p a b = (0, 1)) (hmy : mayP p a b = false) (hnw : newR k = ([], 1)) (hk0 : k < 0) :
    Calls Try.prog 3 #[.slice A n c, .int .i64 a, .int .i64 b, .int .i64 k] w fun e w' => e = .returned (.bool true) ∧ Below w.heap.size w w' := by
  have FP := Lib.hid hr
  have HN := Lib.hid hnil
  have HC := Lib.hid hnc
  have HL : Hid (n ≤ 2000) := Lib.hid (by omega)
  have HB := Lib.hid (Below.refl w.heap.size w)
  have H_a := Lib.hid ha
  have ha1 := ha.1
  have ha2 := ha.2
  have H_b := Lib.hid hb
  have hb1 := hb.1
  have hb2 := hb.2
  have H_k := Lib.hid hk
  have hk1 := hk.1
  have hk2 := hk.2
  have HT1 := Lib.hid ht1
  have HT2 := Lib.hid ht2
  have HQ1 := Lib.hid hq1
  have HQ2 := Lib.hid hq2
  have HLE := Lib.hid hle
  have HMY := Lib.hid hmy
  have HNW := Lib.hid hnw
  clear hr hnil hnc ha hb hk ht1 ht2 hq1 hq2 hle hmy hnw
  obtain ⟨i0, hi0, hz0, hz1, hz2⟩ := info_parts step_info
  go_enter Try.func3, Try.ntmps3
  go_wp2_with fail
  refine (stepAwake_any H _).mono ?_
  rintro e w1 ⟨rfl, hb1⟩
  have hBz := HB.out.size
  have HB2 := Lib.hid (HB.out.trans (hb1.mono hBz))
  clear HB hBz
  have HB := HB2
  clear HB2
  have FP2 := Lib.hid (FP.out.next hb1)
  clear FP
  have FP := FP2
  clear FP2
  clear hb1
  go_wp2_with (at_builtin; refine wpList_append_RS _ rfl (.tmp 27) (.tmp 28) 22 rfl w1.heap.size 35 i0 (.agg #[.int .i64 0, .int .i64 0]) 16 Try.underlying22 hi0 hz0 hz1 hz2 rfl (.slice (some ⟨w1.heap.size, 0, none⟩) 0 0) 0 [] rfl (own_empty2 w1 _) w1.heap.size A n c p rfl (FP.out.below (Below.alloc (Below.refl _ _) (Nat.le_refl _) _)) HN.out (by unfold maxLen; omega) (by omega) (by simp) ?_; intro vx wx hownx hgx; refine Hid.out ?_)
  refine Lib.hid ?_
  have hbx : Below w1.heap.size w1 wx := (Below.alloc (Below.refl _ _) (Nat.le_refl _) _).grown hgx (by simp) (fun j hj => (Nat.le_of_eq (by simpa [Value.ownBlock] using hj)))
  rw [List.nil_append, Nat.zero_add] at hownx
  obtain ⟨AX, cX, rfl⟩ := own_form hownx
  have FX0 := Lib.hid (RS.of_own hownx)
  have FXc := Lib.hid (own_cap hownx)
  have FXz : Hid (AX = none → cX = 0) := Lib.hid (own_nil hownx)
  clear hownx hgx
  have hBz := HB.out.size
  have HB2 := Lib.hid (HB.out.trans (hbx.mono hBz))
  clear HB hBz
  have HB := HB2
  clear HB2
  have FP2 := Lib.hid (FP.out.next hbx)
  clear FP
  have FP := FP2
  clear FP2
  clear hbx
  have FX := FX0
  clear FX0
  go_wp2_with fail
  refine (calls_spost (H.take _ _ _ _ a b k _ FX.out FXz.out FXc.out HL.out H_a.out H_b.out H_k.out) HT1.out).mono ?_
  rintro e w2 ⟨⟨A2, c2, rfl, hr2, hnil2, hc2⟩, hb2⟩
  have hBz := HB.out.size
  have HB2 := Lib.hid (HB.out.trans (hb2.mono hBz))
  clear HB hBz
  have HB := HB2
  clear HB2
  have FP2 := Lib.hid (FP.out.next hb2)
  clear FP
  have FP := FP2
  clear FP2
  have FX2 := Lib.hid (FX.out.next hb2)
  clear FX
  have FX := FX2
  clear FX2
  clear hb2
  have F1 := Lib.hid hr2
  have F1c := Lib.hid hc2
  have F1z := Lib.hid hnil2
  clear hr2 hc2 hnil2
  go_wp2_with fail
  refine (calls_spost (s_take FP.out HN.out HC.out HL.out H_k.out) HT1.out).mono ?_
  rintro e w3 ⟨⟨A3, c3, rfl, hr3, hnil3, hc3⟩, hb3⟩
  have hBz := HB.out.size
  have HB2 := Lib.hid (HB.out.trans (hb3.mono hBz))
  clear HB hBz
  have HB := HB2
  clear HB2
  have FP2 := Lib.hid (FP.out.next hb3)
  clear FP
  have FP := FP2
  clear FP2
  have FX2 := Lib.hid (FX.out.next hb3)
  clear FX
  have FX := FX2
  clear FX2
  have F12 := Lib.hid (F1.out.next hb3)
  clear F1
  have F1 := F12
  clear F12
  clear hb3
  have F2 := Lib.hid hr3
  have F2c := Lib.hid hc3
  have F2z := Lib.hid hnil3
  clear hr3 hc3 hnil3
  go_wp2_with fail
  refine (calls_spost (H.give _ _ _ _ a b k _ FX.out FXz.out FXc.out HL.out H_a.out H_b.out H_k.out) HT2.out).mono ?_
  rintro e w4 ⟨⟨A4, c4, rfl, hr4, hnil4, hc4⟩, hb4⟩
  have hBz := HB.out.size
  have HB2 := Lib.hid (HB.out.trans (hb4.mono hBz))
  clear HB hBz
  have HB := HB2
  clear HB2
  have FP2 := Lib.hid (FP.out.next hb4)
  clear FP
  have FP := FP2
  clear FP2
  have FX2 := Lib.hid (FX.out.next hb4)
  clear FX
  have FX := FX2
  clear FX2
  have F12 := Lib.hid (F1.out.next hb4)
  clear F1
  have F1 := F12
  clear F12
  have F22 := Lib.hid (F2.out.next hb4)
  clear F2
  have F2 := F22
  clear F22
  clear hb4
  have F3 := Lib.hid hr4
  have F3c := Lib.hid hc4
  have F3z := Lib.hid hnil4
  clear hr4 hc4 hnil4
  go_wp2_with fail
  refine (calls_spost (s_give FP.out HN.out HC.out HL.out H_k.out) HT2.out).mono ?_
  rintro e w5 ⟨⟨A5, c5, rfl, hr5, hnil5, hc5⟩, hb5⟩
  have hBz := HB.out.size
  have HB2 := Lib.hid (HB.out.trans (hb5.mono hBz))
  clear HB hBz
  have HB := HB2
  clear HB2
  have FP2 := Lib.hid (FP.out.next hb5)
  clear FP
  have FP := FP2
  clear FP2
  have FX2 := Lib.hid (FX.out.next hb5)
  clear FX
  have FX := FX2
  clear FX2
  have F12 := Lib.hid (F1.out.next hb5)
  clear F1
  have F1 := F12
  clear F12
  have F22 := Lib.hid (F2.out.next hb5)
  clear F2
  have F2 := F22
  clear F22
  have F32 := Lib.hid (F3.out.next hb5)
  clear F3
  have F3 := F32
  clear F32
  clear hb5
  have F4 := Lib.hid hr5
  have F4c := Lib.hid hc5
  have F4z := Lib.hid hnil5
  clear hr5 hc5 hnil5
  go_wp2_with fail
  refine (calls_pair (H.least _ _ _ _ a b _ FX.out FXc.out HL.out H_a.out H_b.out) HLE.out).mono ?_
  rintro e w6 ⟨rfl, hb6⟩
  have hBz := HB.out.size
  have HB2 := Lib.hid (HB.out.trans (hb6.mono hBz))
  clear HB hBz
  have HB := HB2
  clear HB2
  have FP2 := Lib.hid (FP.out.next hb6)
  clear FP
  have FP := FP2
  clear FP2
  have FX2 := Lib.hid (FX.out.next hb6)
  clear FX
  have FX := FX2
  clear FX2
  have F12 := Lib.hid (F1.out.next hb6)
  clear F1
  have F1 := F12
  clear F12
  have F22 := Lib.hid (F2.out.next hb6)
  clear F2
  have F2 := F22
  clear F22
  have F32 := Lib.hid (F3.out.next hb6)
  clear F3
  have F3 := F32
  clear F32
  have F42 := Lib.hid (F4.out.next hb6)
  clear F4
  have F4 := F42
  clear F42
  clear hb6
  go_wp2_with fail
  refine (calls_bool (s_may FP.out HL.out) HMY.out).mono ?_
  rintro e w7 ⟨rfl, hb7⟩
  have hBz := HB.out.size
  have HB2 := Lib.hid (HB.out.trans (hb7.mono hBz))
  clear HB hBz
  have HB := HB2
  clear HB2
  have FP2 := Lib.hid (FP.out.next hb7)
  clear FP
  have FP := FP2
  clear FP2
  have FX2 := Lib.hid (FX.out.next hb7)
  clear FX
  have FX := FX2
  clear FX2
  have F12 := Lib.hid (F1.out.next hb7)
  clear F1
  have F1 := F12
  clear F12
  have F22 := Lib.hid (F2.out.next hb7)
  clear F2
  have F2 := F22
  clear F22
  have F32 := Lib.hid (F3.out.next hb7)
  clear F3
  have F3 := F32
  clear F32
  have F42 := Lib.hid (F4.out.next hb7)
  clear F4
  have F4 := F42
  clear F42
  clear hb7
  go_wp2_with fail
  refine (calls_spost (H.new k _ H_k.out) HNW.out).mono ?_
  rintro e w8 ⟨⟨A8, c8, rfl, hr8, hnil8, hc8⟩, hb8⟩
  have hBz := HB.out.size
  have HB2 := Lib.hid (HB.out.trans (hb8.mono hBz))
  clear HB hBz
  have HB := HB2
  clear HB2
  have FP2 := Lib.hid (FP.out.next hb8)
  clear FP
  have FP := FP2
  clear FP2
  have FX2 := Lib.hid (FX.out.next hb8)
  clear FX
  have FX := FX2
  clear FX2
  have F12 := Lib.hid (F1.out.next hb8)
  clear F1
  have F1 := F12
  clear F12
  have F22 := Lib.hid (F2.out.next hb8)
  clear F2
  have F2 := F22
  clear F22
  have F32 := Lib.hid (F3.out.next hb8)
  clear F3
  have F3 := F32
  clear F32
  have F42 := Lib.hid (F4.out.next hb8)
  clear F4
  have F4 := F42
  clear F42
  clear hb8
  have F5 := Lib.hid hr8
  have F5c := Lib.hid hc8
  have F5z := Lib.hid hnil8
  clear hr8 hc8 hnil8
  go_wp2_with fail
  refine (calls_bool (H.right _ _ _ _ _ FX.out HL.out) rfl).mono ?_
  rintro e w9 ⟨rfl, hb9⟩
  have hBz := HB.out.size
  have HB2 := Lib.hid (HB.out.trans (hb9.mono hBz))
  clear HB hBz
  have HB := HB2
  clear HB2
  have FP2 := Lib.hid (FP.out.next hb9)
  clear FP
  have FP := FP2
  clear FP2
  have FX2 := Lib.hid (FX.out.next hb9)
  clear FX
  have FX := FX2
  clear FX2
  have F12 := Lib.hid (F1.out.next hb9)
  clear F1
  have F1 := F12
  clear F12
  have F22 := Lib.hid (F2.out.next hb9)
  clear F2
  have F2 := F22
  clear F22
  have F32 := Lib.hid (F3.out.next hb9)
  clear F3
  have F3 := F32
  clear F32
  have F42 := Lib.hid (F4.out.next hb9)
  clear F4
  have F4 := F42
  clear F42
  have F52 := Lib.hid (F5.out.next hb9)
  clear F5
  have F5 := F52
  clear F52
  clear hb9
  go_wp2_with fail
  refine (calls_bool (s_right FP.out HL.out) rfl).mono ?_
  rintro e w10 ⟨rfl, hb10⟩
  have hBz := HB.out.size
  have HB2 := Lib.hid (HB.out.trans (hb10.mono hBz))
  clear HB hBz
  have HB := HB2
  clear HB2
  have FP2 := Lib.hid (FP.out.next hb10)
  clear FP
  have FP := FP2
  clear FP2
  have FX2 := Lib.hid (FX.out.next hb10)
  clear FX
  have FX := FX2
  clear FX2
  have F12 := Lib.hid (F1.out.next hb10)
  clear F1
  have F1 := F12
  clear F12
  have F22 := Lib.hid (F2.out.next hb10)
  clear F2
  have F2 := F22
  clear F22
  have F32 := Lib.hid (F3.out.next hb10)
  clear F3
  have F3 := F32
  clear F32
  have F42 := Lib.hid (F4.out.next hb10)
  clear F4
  have F4 := F42
  clear F42
  have F52 := Lib.hid (F5.out.next hb10)
  clear F5
  have F5 := F52
  clear F52
  clear hb10
  go_wp2_with fail
  refine (calls_int (H.at_ _ _ _ _ a _ FX.out HL.out H_a.out) rfl).mono ?_
  rintro e w11 ⟨rfl, hb11⟩
  have hBz := HB.out.size
  have HB2 := Lib.hid (HB.out.trans (hb11.mono hBz))
  clear HB hBz
  have HB := HB2
  clear HB2
  have FP2 := Lib.hid (FP.out.next hb11)
  clear FP
  have FP := FP2
  clear FP2
  have FX2 := Lib.hid (FX.out.next hb11)
  clear FX
  have FX := FX2
  clear FX2
  have F12 := Lib.hid (F1.out.next hb11)
  clear F1
  have F1 := F12
  clear F12
  have F22 := Lib.hid (F2.out.next hb11)
  clear F2
  have F2 := F22
  clear F22
  have F32 := Lib.hid (F3.out.next hb11)
  clear F3
  have F3 := F32
  clear F32
  have F42 := Lib.hid (F4.out.next hb11)
  clear F4
  have F4 := F42
  clear F42
  have F52 := Lib.hid (F5.out.next hb11)
  clear F5
  have F5 := F52
  clear F52
  clear hb11
  go_wp2_with fail
  refine (calls_int (s_at FP.out HL.out) rfl).mono ?_
  rintro e w12 ⟨rfl, hb12⟩
  have hBz := HB.out.size
  have HB2 := Lib.hid (HB.out.trans (hb12.mono hBz))
  clear HB hBz
  have HB := HB2
  clear HB2
  have FP2 := Lib.hid (FP.out.next hb12)
  clear FP
  have FP := FP2
  clear FP2
  have FX2 := Lib.hid (FX.out.next hb12)
  clear FX
  have FX := FX2
  clear FX2
  have F12 := Lib.hid (F1.out.next hb12)
  clear F1
  have F1 := F12
  clear F12
  have F22 := Lib.hid (F2.out.next hb12)
  clear F2
  have F2 := F22
  clear F22
  have F32 := Lib.hid (F3.out.next hb12)
  clear F3
  have F3 := F32
  clear F32
  have F42 := Lib.hid (F4.out.next hb12)
  clear F4
  have F4 := F42
  clear F42
  have F52 := Lib.hid (F5.out.next hb12)
  clear F5
  have F5 := F52
  clear F52
  clear hb12
  go_wp2_with fail
  refine (s_same F1.out F2.out HQ1.out HQ1.out rfl).mono ?_
  rintro e w13 ⟨rfl, hb13⟩
  have hBz := HB.out.size
  have HB2 := Lib.hid (HB.out.trans (hb13.mono hBz))
  clear HB hBz
  have HB := HB2
  clear HB2
  have FP2 := Lib.hid (FP.out.next hb13)
  clear FP
  have FP := FP2
  clear FP2
  have FX2 := Lib.hid (FX.out.next hb13)
  clear FX
  have FX := FX2
  clear FX2
  have F12 := Lib.hid (F1.out.next hb13)
  clear F1
  have F1 := F12
  clear F12
  have F22 := Lib.hid (F2.out.next hb13)
  clear F2
  have F2 := F22
  clear F22
  have F32 := Lib.hid (F3.out.next hb13)
  clear F3
  have F3 := F32
  clear F32
  have F42 := Lib.hid (F4.out.next hb13)
  clear F4
  have F4 := F42
  clear F42
  have F52 := Lib.hid (F5.out.next hb13)
  clear F5
  have F5 := F52
  clear F52
  clear hb13
  go_wp2_with fail
  refine (s_same F3.out F4.out HQ2.out HQ2.out rfl).mono ?_
  rintro e w14 ⟨rfl, hb14⟩
  have hBz := HB.out.size
  have HB2 := Lib.hid (HB.out.trans (hb14.mono hBz))
  clear HB hBz
  have HB := HB2
  clear HB2
  have FP2 := Lib.hid (FP.out.next hb14)
  clear FP
  have FP := FP2
  clear FP2
  have FX2 := Lib.hid (FX.out.next hb14)
  clear FX
  have FX := FX2
  clear FX2
  have F12 := Lib.hid (F1.out.next hb14)
  clear F1
  have F1 := F12
  clear F12
  have F22 := Lib.hid (F2.out.next hb14)
  clear F2
  have F2 := F22
  clear F22
  have F32 := Lib.hid (F3.out.next hb14)
  clear F3
  have F3 := F32
  clear F32
  have F42 := Lib.hid (F4.out.next hb14)
  clear F4
  have F4 := F42
  clear F42
  have F52 := Lib.hid (F5.out.next hb14)
  clear F5
  have F5 := F52
  clear F52
  clear hb14
  go_wp2_with fail
  refine (s_same FX.out FP.out HL.out HL.out rfl).mono ?_
  rintro e w15 ⟨rfl, hb15⟩
  have hBz := HB.out.size
  have HB2 := Lib.hid (HB.out.trans (hb15.mono hBz))
  clear HB hBz
  have HB := HB2
  clear HB2
  have FP2 := Lib.hid (FP.out.next hb15)
  clear FP
  have FP := FP2
  clear FP2
  have FX2 := Lib.hid (FX.out.next hb15)
  clear FX
  have FX := FX2
  clear FX2
  have F12 := Lib.hid (F1.out.next hb15)
  clear F1
  have F1 := F12
  clear F12
  have F22 := Lib.hid (F2.out.next hb15)
  clear F2
  have F2 := F22
  clear F22
  have F32 := Lib.hid (F3.out.next hb15)
  clear F3
  have F3 := F32
  clear F32
  have F42 := Lib.hid (F4.out.next hb15)
  clear F4
  have F4 := F42
  clear F42
  have F52 := Lib.hid (F5.out.next hb15)
  clear F5
  have F5 := F52
  clear F52
  clear hb15
  go_wp2
  go_ret
  exact ⟨rfl, HB.out⟩

set_option maxRecDepth 100000 in
set_option maxHeartbeats 8000000 in
theorem sright_not_in (H : StepOk) (A : Option Addr) (n c : Nat) (p : List (Int × Int)) (a b k : Int) (w : World) (hr : RS w w.heap.size A n p) (hnil : A = none → c = 0) (hnc : n ≤ c) (hn2 : n ≤ 200) (ha : I64 a) (hb : I64 b) (hk : I64 k) (q1 q2 : List (Int × Int)) (e1 e2 : Int) (ht1 : takeR p a b k = (q1, e1)) (ht2 : giveR p a b k = (q2, e2)) (hq1 : q1.length ≤ 2000) (hq2 : q2.length ≤ 2000) (hle : leastE p a b = (0, 1)) (hmy : mayP p a b = false) (hnw : newR k = ([(0, k)], 0)) (hk0 : 0 ≤ k) (hk9 : k ≤ 1048576) :
    Calls Try.prog 3 #[.slice A n c, .int .i64 a, .int .i64 b, .int .i64 k] w fun e w' => e = .returned (.bool true) ∧ Below w.heap.size w w' := by
  have FP := Lib.hid hr
  have HN := Lib.hid hnil
  have HC := Lib.hid hnc
  have HL : Hid (n ≤ 2000) := Lib.hid (by omega)
  have HB := Lib.hid (Below.refl w.heap.size w)
  have H_a := Lib.hid ha
  have ha1 := ha.1
  have ha2 := ha.2
  have H_b := Lib.hid hb
  have hb1 := hb.1
  have hb2 := hb.2
  have H_k := Lib.hid hk
  have hk1 := hk.1
  have hk2 := hk.2
  have HT1 := Lib.hid ht1
  have HT2 := Lib.hid ht2
  have HQ1 := Lib.hid hq1
  have HQ2 := Lib.hid hq2
  have HLE := Lib.hid hle
  have HMY := Lib.hid hmy
  have HNW := Lib.hid hnw
  clear hr hnil hnc ha hb hk ht1 ht2 hq1 hq2 hle hmy hnw
  obtain ⟨i0, hi0, hz0, hz1, hz2⟩ := info_parts step_info
  go_enter Try.func3, Try.ntmps3
  go_wp2_with fail
  refine (stepAwake_any H _).mono ?_
  rintro e w1 ⟨rfl, hb1⟩
  have hBz := HB.out.size
  have HB2 := Lib.hid (HB.out.trans (hb1.mono hBz))
  clear HB hBz
  have HB := HB2
  clear HB2
  have FP2 := Lib.hid (FP.out.next hb1)
  clear FP
  have FP := FP2
  clear FP2
  clear hb1
  go_wp2_with (at_builtin; refine wpList_append_RS _ rfl (.tmp 27) (.tmp 28) 22 rfl w1.heap.size 35 i0 (.agg #[.int .i64 0, .int .i64 0]) 16 Try.underlying22 hi0 hz0 hz1 hz2 rfl (.slice (some ⟨w1.heap.size, 0, none⟩) 0 0) 0 [] rfl (own_empty2 w1 _) w1.heap.size A n c p rfl (FP.out.below (Below.alloc (Below.refl _ _) (Nat.le_refl _) _)) HN.out (by unfold maxLen; omega) (by omega) (by simp) ?_; intro vx wx hownx hgx; refine Hid.out ?_)
  refine Lib.hid ?_
  have hbx : Below w1.heap.size w1 wx := (Below.alloc (Below.refl _ _) (Nat.le_refl _) _).grown hgx (by simp) (fun j hj => (Nat.le_of_eq (by simpa [Value.ownBlock] using hj)))
  rw [List.nil_append, Nat.zero_add] at hownx
  obtain ⟨AX, cX, rfl⟩ := own_form hownx
  have FX0 := Lib.hid (RS.of_own hownx)
  have FXc := Lib.hid (own_cap hownx)
  have FXz : Hid (AX = none → cX = 0) := Lib.hid (own_nil hownx)
  clear hownx hgx
  have hBz := HB.out.size
  have HB2 := Lib.hid (HB.out.trans (hbx.mono hBz))
  clear HB hBz
  have HB := HB2
  clear HB2
  have FP2 := Lib.hid (FP.out.next hbx)
  clear FP
  have FP := FP2
  clear FP2
  clear hbx
  have FX := FX0
  clear FX0
  go_wp2_with fail
  refine (calls_spost (H.take _ _ _ _ a b k _ FX.out FXz.out FXc.out HL.out H_a.out H_b.out H_k.out) HT1.out).mono ?_
  rintro e w2 ⟨⟨A2, c2, rfl, hr2, hnil2, hc2⟩, hb2⟩
  have hBz := HB.out.size
  have HB2 := Lib.hid (HB.out.trans (hb2.mono hBz))
  clear HB hBz
  have HB := HB2
  clear HB2
  have FP2 := Lib.hid (FP.out.next hb2)
  clear FP
  have FP := FP2
  clear FP2
  have FX2 := Lib.hid (FX.out.next hb2)
  clear FX
  have FX := FX2
  clear FX2
  clear hb2
  have F1 := Lib.hid hr2
  have F1c := Lib.hid hc2
  have F1z := Lib.hid hnil2
  clear hr2 hc2 hnil2
  go_wp2_with fail
  refine (calls_spost (s_take FP.out HN.out HC.out HL.out H_k.out) HT1.out).mono ?_
  rintro e w3 ⟨⟨A3, c3, rfl, hr3, hnil3, hc3⟩, hb3⟩
  have hBz := HB.out.size
  have HB2 := Lib.hid (HB.out.trans (hb3.mono hBz))
  clear HB hBz
  have HB := HB2
  clear HB2
  have FP2 := Lib.hid (FP.out.next hb3)
  clear FP
  have FP := FP2
  clear FP2
  have FX2 := Lib.hid (FX.out.next hb3)
  clear FX
  have FX := FX2
  clear FX2
  have F12 := Lib.hid (F1.out.next hb3)
  clear F1
  have F1 := F12
  clear F12
  clear hb3
  have F2 := Lib.hid hr3
  have F2c := Lib.hid hc3
  have F2z := Lib.hid hnil3
  clear hr3 hc3 hnil3
  go_wp2_with fail
  refine (calls_spost (H.give _ _ _ _ a b k _ FX.out FXz.out FXc.out HL.out H_a.out H_b.out H_k.out) HT2.out).mono ?_
  rintro e w4 ⟨⟨A4, c4, rfl, hr4, hnil4, hc4⟩, hb4⟩
  have hBz := HB.out.size
  have HB2 := Lib.hid (HB.out.trans (hb4.mono hBz))
  clear HB hBz
  have HB := HB2
  clear HB2
  have FP2 := Lib.hid (FP.out.next hb4)
  clear FP
  have FP := FP2
  clear FP2
  have FX2 := Lib.hid (FX.out.next hb4)
  clear FX
  have FX := FX2
  clear FX2
  have F12 := Lib.hid (F1.out.next hb4)
  clear F1
  have F1 := F12
  clear F12
  have F22 := Lib.hid (F2.out.next hb4)
  clear F2
  have F2 := F22
  clear F22
  clear hb4
  have F3 := Lib.hid hr4
  have F3c := Lib.hid hc4
  have F3z := Lib.hid hnil4
  clear hr4 hc4 hnil4
  go_wp2_with fail
  refine (calls_spost (s_give FP.out HN.out HC.out HL.out H_k.out) HT2.out).mono ?_
  rintro e w5 ⟨⟨A5, c5, rfl, hr5, hnil5, hc5⟩, hb5⟩
  have hBz := HB.out.size
  have HB2 := Lib.hid (HB.out.trans (hb5.mono hBz))
  clear HB hBz
  have HB := HB2
  clear HB2
  have FP2 := Lib.hid (FP.out.next hb5)
  clear FP
  have FP := FP2
  clear FP2
  have FX2 := Lib.hid (FX.out.next hb5)
  clear FX
  have FX := FX2
  clear FX2
  have F12 := Lib.hid (F1.out.next hb5)
  clear F1
  have F1 := F12
  clear F12
  have F22 := Lib.hid (F2.out.next hb5)
  clear F2
  have F2 := F22
  clear F22
  have F32 := Lib.hid (F3.out.next hb5)
  clear F3
  have F3 := F32
  clear F32
  clear hb5
  have F4 := Lib.hid hr5
  have F4c := Lib.hid hc5
  have F4z := Lib.hid hnil5
  clear hr5 hc5 hnil5
  go_wp2_with fail
  refine (calls_pair (H.least _ _ _ _ a b _ FX.out FXc.out HL.out H_a.out H_b.out) HLE.out).mono ?_
  rintro e w6 ⟨rfl, hb6⟩
  have hBz := HB.out.size
  have HB2 := Lib.hid (HB.out.trans (hb6.mono hBz))
  clear HB hBz
  have HB := HB2
  clear HB2
  have FP2 := Lib.hid (FP.out.next hb6)
  clear FP
  have FP := FP2
  clear FP2
  have FX2 := Lib.hid (FX.out.next hb6)
  clear FX
  have FX := FX2
  clear FX2
  have F12 := Lib.hid (F1.out.next hb6)
  clear F1
  have F1 := F12
  clear F12
  have F22 := Lib.hid (F2.out.next hb6)
  clear F2
  have F2 := F22
  clear F22
  have F32 := Lib.hid (F3.out.next hb6)
  clear F3
  have F3 := F32
  clear F32
  have F42 := Lib.hid (F4.out.next hb6)
  clear F4
  have F4 := F42
  clear F42
  clear hb6
  go_wp2_with fail
  refine (calls_bool (s_may FP.out HL.out) HMY.out).mono ?_
  rintro e w7 ⟨rfl, hb7⟩
  have hBz := HB.out.size
  have HB2 := Lib.hid (HB.out.trans (hb7.mono hBz))
  clear HB hBz
  have HB := HB2
  clear HB2
  have FP2 := Lib.hid (FP.out.next hb7)
  clear FP
  have FP := FP2
  clear FP2
  have FX2 := Lib.hid (FX.out.next hb7)
  clear FX
  have FX := FX2
  clear FX2
  have F12 := Lib.hid (F1.out.next hb7)
  clear F1
  have F1 := F12
  clear F12
  have F22 := Lib.hid (F2.out.next hb7)
  clear F2
  have F2 := F22
  clear F22
  have F32 := Lib.hid (F3.out.next hb7)
  clear F3
  have F3 := F32
  clear F32
  have F42 := Lib.hid (F4.out.next hb7)
  clear F4
  have F4 := F42
  clear F42
  clear hb7
  go_wp2_with fail
  refine (calls_spost (H.new k _ H_k.out) HNW.out).mono ?_
  rintro e w8 ⟨⟨A8, c8, rfl, hr8, hnil8, hc8⟩, hb8⟩
  have hBz := HB.out.size
  have HB2 := Lib.hid (HB.out.trans (hb8.mono hBz))
  clear HB hBz
  have HB := HB2
  clear HB2
  have FP2 := Lib.hid (FP.out.next hb8)
  clear FP
  have FP := FP2
  clear FP2
  have FX2 := Lib.hid (FX.out.next hb8)
  clear FX
  have FX := FX2
  clear FX2
  have F12 := Lib.hid (F1.out.next hb8)
  clear F1
  have F1 := F12
  clear F12
  have F22 := Lib.hid (F2.out.next hb8)
  clear F2
  have F2 := F22
  clear F22
  have F32 := Lib.hid (F3.out.next hb8)
  clear F3
  have F3 := F32
  clear F32
  have F42 := Lib.hid (F4.out.next hb8)
  clear F4
  have F4 := F42
  clear F42
  clear hb8
  have F5 := Lib.hid hr8
  have F5c := Lib.hid hc8
  have F5z := Lib.hid hnil8
  clear hr8 hc8 hnil8
  obtain ⟨b5, o5, e5, hb5, hc5⟩ := F5.out.2 (by simp)
  have hc50 : w8.cell? ⟨b5, o5 + 1, none⟩ = some (.int .i64 k) := by have := (hc5 0 (by simp)).2; simpa using this
  subst e5
  clear hc5
  go_wp2_with fail
  refine (calls_bool (H.right _ _ _ _ _ FX.out HL.out) rfl).mono ?_
  rintro e w9 ⟨rfl, hb9⟩
  have hBz := HB.out.size
  have HB2 := Lib.hid (HB.out.trans (hb9.mono hBz))
  clear HB hBz
  have HB := HB2
  clear HB2
  have FP2 := Lib.hid (FP.out.next hb9)
  clear FP
  have FP := FP2
  clear FP2
  have FX2 := Lib.hid (FX.out.next hb9)
  clear FX
  have FX := FX2
  clear FX2
  have F12 := Lib.hid (F1.out.next hb9)
  clear F1
  have F1 := F12
  clear F12
  have F22 := Lib.hid (F2.out.next hb9)
  clear F2
  have F2 := F22
  clear F22
  have F32 := Lib.hid (F3.out.next hb9)
  clear F3
  have F3 := F32
  clear F32
  have F42 := Lib.hid (F4.out.next hb9)
  clear F4
  have F4 := F42
  clear F42
  have F52 := Lib.hid (F5.out.next hb9)
  clear F5
  have F5 := F52
  clear F52
  clear hb9
  go_wp2_with fail
  refine (calls_bool (s_right FP.out HL.out) rfl).mono ?_
  rintro e w10 ⟨rfl, hb10⟩
  have hBz := HB.out.size
  have HB2 := Lib.hid (HB.out.trans (hb10.mono hBz))
  clear HB hBz
  have HB := HB2
  clear HB2
  have FP2 := Lib.hid (FP.out.next hb10)
  clear FP
  have FP := FP2
  clear FP2
  have FX2 := Lib.hid (FX.out.next hb10)
  clear FX
  have FX := FX2
  clear FX2
  have F12 := Lib.hid (F1.out.next hb10)
  clear F1
  have F1 := F12
  clear F12
  have F22 := Lib.hid (F2.out.next hb10)
  clear F2
  have F2 := F22
  clear F22
  have F32 := Lib.hid (F3.out.next hb10)
  clear F3
  have F3 := F32
  clear F32
  have F42 := Lib.hid (F4.out.next hb10)
  clear F4
  have F4 := F42
  clear F42
  have F52 := Lib.hid (F5.out.next hb10)
  clear F5
  have F5 := F52
  clear F52
  clear hb10
  go_wp2_with fail
  refine (calls_int (H.at_ _ _ _ _ a _ FX.out HL.out H_a.out) rfl).mono ?_
  rintro e w11 ⟨rfl, hb11⟩
  have hBz := HB.out.size
  have HB2 := Lib.hid (HB.out.trans (hb11.mono hBz))
  clear HB hBz
  have HB := HB2
  clear HB2
  have FP2 := Lib.hid (FP.out.next hb11)
  clear FP
  have FP := FP2
  clear FP2
  have FX2 := Lib.hid (FX.out.next hb11)
  clear FX
  have FX := FX2
  clear FX2
  have F12 := Lib.hid (F1.out.next hb11)
  clear F1
  have F1 := F12
  clear F12
  have F22 := Lib.hid (F2.out.next hb11)
  clear F2
  have F2 := F22
  clear F22
  have F32 := Lib.hid (F3.out.next hb11)
  clear F3
  have F3 := F32
  clear F32
  have F42 := Lib.hid (F4.out.next hb11)
  clear F4
  have F4 := F42
  clear F42
  have F52 := Lib.hid (F5.out.next hb11)
  clear F5
  have F5 := F52
  clear F52
  clear hb11
  go_wp2_with fail
  refine (calls_int (s_at FP.out HL.out) rfl).mono ?_
  rintro e w12 ⟨rfl, hb12⟩
  have hBz := HB.out.size
  have HB2 := Lib.hid (HB.out.trans (hb12.mono hBz))
  clear HB hBz
  have HB := HB2
  clear HB2
  have FP2 := Lib.hid (FP.out.next hb12)
  clear FP
  have FP := FP2
  clear FP2
  have FX2 := Lib.hid (FX.out.next hb12)
  clear FX
  have FX := FX2
  clear FX2
  have F12 := Lib.hid (F1.out.next hb12)
  clear F1
  have F1 := F12
  clear F12
  have F22 := Lib.hid (F2.out.next hb12)
  clear F2
  have F2 := F22
  clear F22
  have F32 := Lib.hid (F3.out.next hb12)
  clear F3
  have F3 := F32
  clear F32
  have F42 := Lib.hid (F4.out.next hb12)
  clear F4
  have F4 := F42
  clear F42
  have F52 := Lib.hid (F5.out.next hb12)
  clear F5
  have F5 := F52
  clear F52
  clear hb12
  go_wp2_with fail
  refine (s_same F1.out F2.out HQ1.out HQ1.out rfl).mono ?_
  rintro e w13 ⟨rfl, hb13⟩
  have hBz := HB.out.size
  have HB2 := Lib.hid (HB.out.trans (hb13.mono hBz))
  clear HB hBz
  have HB := HB2
  clear HB2
  have FP2 := Lib.hid (FP.out.next hb13)
  clear FP
  have FP := FP2
  clear FP2
  have FX2 := Lib.hid (FX.out.next hb13)
  clear FX
  have FX := FX2
  clear FX2
  have F12 := Lib.hid (F1.out.next hb13)
  clear F1
  have F1 := F12
  clear F12
  have F22 := Lib.hid (F2.out.next hb13)
  clear F2
  have F2 := F22
  clear F22
  have F32 := Lib.hid (F3.out.next hb13)
  clear F3
  have F3 := F32
  clear F32
  have F42 := Lib.hid (F4.out.next hb13)
  clear F4
  have F4 := F42
  clear F42
  have F52 := Lib.hid (F5.out.next hb13)
  clear F5
  have F5 := F52
  clear F52
  clear hb13
  go_wp2_with fail
  refine (s_same F3.out F4.out HQ2.out HQ2.out rfl).mono ?_
  rintro e w14 ⟨rfl, hb14⟩
  have hBz := HB.out.size
  have HB2 := Lib.hid (HB.out.trans (hb14.mono hBz))
  clear HB hBz
  have HB := HB2
  clear HB2
  have FP2 := Lib.hid (FP.out.next hb14)
  clear FP
  have FP := FP2
  clear FP2
  have FX2 := Lib.hid (FX.out.next hb14)
  clear FX
  have FX := FX2
  clear FX2
  have F12 := Lib.hid (F1.out.next hb14)
  clear F1
  have F1 := F12
  clear F12
  have F22 := Lib.hid (F2.out.next hb14)
  clear F2
  have F2 := F22
  clear F22
  have F32 := Lib.hid (F3.out.next hb14)
  clear F3
  have F3 := F32
  clear F32
  have F42 := Lib.hid (F4.out.next hb14)
  clear F4
  have F4 := F42
  clear F42
  have F52 := Lib.hid (F5.out.next hb14)
  clear F5
  have F5 := F52
  clear F52
  clear hb14
  go_wp2_with fail
  refine (s_same FX.out FP.out HL.out HL.out rfl).mono ?_
  rintro e w15 ⟨rfl, hb15⟩
  have hBz := HB.out.size
  have HB2 := Lib.hid (HB.out.trans (hb15.mono hBz))
  clear HB hBz
  have HB := HB2
  clear HB2
  have FP2 := Lib.hid (FP.out.next hb15)
  clear FP
  have FP := FP2
  clear FP2
  have FX2 := Lib.hid (FX.out.next hb15)
  clear FX
  have FX := FX2
  clear FX2
  have F12 := Lib.hid (F1.out.next hb15)
  clear F1
  have F1 := F12
  clear F12
  have F22 := Lib.hid (F2.out.next hb15)
  clear F2
  have F2 := F22
  clear F22
  have F32 := Lib.hid (F3.out.next hb15)
  clear F3
  have F3 := F32
  clear F32
  have F42 := Lib.hid (F4.out.next hb15)
  clear F4
  have F4 := F42
  clear F42
  have F52 := Lib.hid (F5.out.next hb15)
  clear F5
  have F5 := F52
  clear F52
  clear hb15
  go_wp2
  go_ret
  exact ⟨rfl, HB.out⟩

set_option maxRecDepth 100000 in
set_option maxHeartbeats 8000000 in
theorem sright_not_high (H : StepOk) (A : Option Addr) (n c : Nat) (p : List (Int × Int)) (a b k : Int) (w : World) (hr : RS w w.heap.size A n p) (hnil : A = none → c = 0) (hnc : n ≤ c) (hn2 : n ≤ 200) (ha : I64 a) (hb : I64 b) (hk : I64 k) (q1 q2 : List (Int × Int)) (e1 e2 : Int) (ht1 : takeR p a b k = (q1, e1)) (ht2 : giveR p a b k = (q2, e2)) (hq1 : q1.length ≤ 2000) (hq2 : q2.length ≤ 2000) (hle : leastE p a b = (0, 1)) (hmy : mayP p a b = false) (hnw : newR k = ([], 1)) (hk0 : 0 ≤ k) (hk9 : 1048576 < k) :
    Calls Try.prog 3 #[.slice A n c, .int .i64 a, .int .i64 b, .int .i64 k] w fun e w' => e = .returned (.bool true) ∧ Below w.heap.size w w' := by
  have FP := Lib.hid hr
  have HN := Lib.hid hnil
  have HC := Lib.hid hnc
  have HL : Hid (n ≤ 2000) := Lib.hid (by omega)
  have HB := Lib.hid (Below.refl w.heap.size w)
  have H_a := Lib.hid ha
  have ha1 := ha.1
  have ha2 := ha.2
  have H_b := Lib.hid hb
  have hb1 := hb.1
  have hb2 := hb.2
  have H_k := Lib.hid hk
  have hk1 := hk.1
  have hk2 := hk.2
  have HT1 := Lib.hid ht1
  have HT2 := Lib.hid ht2
  have HQ1 := Lib.hid hq1
  have HQ2 := Lib.hid hq2
  have HLE := Lib.hid hle
  have HMY := Lib.hid hmy
  have HNW := Lib.hid hnw
  clear hr hnil hnc ha hb hk ht1 ht2 hq1 hq2 hle hmy hnw
  obtain ⟨i0, hi0, hz0, hz1, hz2⟩ := info_parts step_info
  go_enter Try.func3, Try.ntmps3
  go_wp2_with fail
  refine (stepAwake_any H _).mono ?_
  rintro e w1 ⟨rfl, hb1⟩
  have hBz := HB.out.size
  have HB2 := Lib.hid (HB.out.trans (hb1.mono hBz))
  clear HB hBz
  have HB := HB2
  clear HB2
  have FP2 := Lib.hid (FP.out.next hb1)
  clear FP
  have FP := FP2
  clear FP2
  clear hb1
  go_wp2_with (at_builtin; refine wpList_append_RS _ rfl (.tmp 27) (.tmp 28) 22 rfl w1.heap.size 35 i0 (.agg #[.int .i64 0, .int .i64 0]) 16 Try.underlying22 hi0 hz0 hz1 hz2 rfl (.slice (some ⟨w1.heap.size, 0, none⟩) 0 0) 0 [] rfl (own_empty2 w1 _) w1.heap.size A n c p rfl (FP.out.below (Below.alloc (Below.refl _ _) (Nat.le_refl _) _)) HN.out (by unfold maxLen; omega) (by omega) (by simp) ?_; intro vx wx hownx hgx; refine Hid.out ?_)
  refine Lib.hid ?_
  have hbx : Below w1.heap.size w1 wx := (Below.alloc (Below.refl _ _) (Nat.le_refl _) _).grown hgx (by simp) (fun j hj => (Nat.le_of_eq (by simpa [Value.ownBlock] using hj)))
  rw [List.nil_append, Nat.zero_add] at hownx
  obtain ⟨AX, cX, rfl⟩ := own_form hownx
  have FX0 := Lib.hid (RS.of_own hownx)
  have FXc := Lib.hid (own_cap hownx)
  have FXz : Hid (AX = none → cX = 0) := Lib.hid (own_nil hownx)
  clear hownx hgx
  have hBz := HB.out.size
  have HB2 := Lib.hid (HB.out.trans (hbx.mono hBz))
  clear HB hBz
  have HB := HB2
  clear HB2
  have FP2 := Lib.hid (FP.out.next hbx)
  clear FP
  have FP := FP2
  clear FP2
  clear hbx
  have FX := FX0
  clear FX0
  go_wp2_with fail
  refine (calls_spost (H.take _ _ _ _ a b k _ FX.out FXz.out FXc.out HL.out H_a.out H_b.out H_k.out) HT1.out).mono ?_
  rintro e w2 ⟨⟨A2, c2, rfl, hr2, hnil2, hc2⟩, hb2⟩
  have hBz := HB.out.size
  have HB2 := Lib.hid (HB.out.trans (hb2.mono hBz))
  clear HB hBz
  have HB := HB2
  clear HB2
  have FP2 := Lib.hid (FP.out.next hb2)
  clear FP
  have FP := FP2
  clear FP2
  have FX2 := Lib.hid (FX.out.next hb2)
  clear FX
  have FX := FX2
  clear FX2
  clear hb2
  have F1 := Lib.hid hr2
  have F1c := Lib.hid hc2
  have F1z := Lib.hid hnil2
  clear hr2 hc2 hnil2
  go_wp2_with fail
  refine (calls_spost (s_take FP.out HN.out HC.out HL.out H_k.out) HT1.out).mono ?_
  rintro e w3 ⟨⟨A3, c3, rfl, hr3, hnil3, hc3⟩, hb3⟩
  have hBz := HB.out.size
  have HB2 := Lib.hid (HB.out.trans (hb3.mono hBz))
  clear HB hBz
  have HB := HB2
  clear HB2
  have FP2 := Lib.hid (FP.out.next hb3)
  clear FP
  have FP := FP2
  clear FP2
  have FX2 := Lib.hid (FX.out.next hb3)
  clear FX
  have FX := FX2
  clear FX2
  have F12 := Lib.hid (F1.out.next hb3)
  clear F1
  have F1 := F12
  clear F12
  clear hb3
  have F2 := Lib.hid hr3
  have F2c := Lib.hid hc3
  have F2z := Lib.hid hnil3
  clear hr3 hc3 hnil3
  go_wp2_with fail
  refine (calls_spost (H.give _ _ _ _ a b k _ FX.out FXz.out FXc.out HL.out H_a.out H_b.out H_k.out) HT2.out).mono ?_
  rintro e w4 ⟨⟨A4, c4, rfl, hr4, hnil4, hc4⟩, hb4⟩
  have hBz := HB.out.size
  have HB2 := Lib.hid (HB.out.trans (hb4.mono hBz))
  clear HB hBz
  have HB := HB2
  clear HB2
  have FP2 := Lib.hid (FP.out.next hb4)
  clear FP
  have FP := FP2
  clear FP2
  have FX2 := Lib.hid (FX.out.next hb4)
  clear FX
  have FX := FX2
  clear FX2
  have F12 := Lib.hid (F1.out.next hb4)
  clear F1
  have F1 := F12
  clear F12
  have F22 := Lib.hid (F2.out.next hb4)
  clear F2
  have F2 := F22
  clear F22
  clear hb4
  have F3 := Lib.hid hr4
  have F3c := Lib.hid hc4
  have F3z := Lib.hid hnil4
  clear hr4 hc4 hnil4
  go_wp2_with fail
  refine (calls_spost (s_give FP.out HN.out HC.out HL.out H_k.out) HT2.out).mono ?_
  rintro e w5 ⟨⟨A5, c5, rfl, hr5, hnil5, hc5⟩, hb5⟩
  have hBz := HB.out.size
  have HB2 := Lib.hid (HB.out.trans (hb5.mono hBz))
  clear HB hBz
  have HB := HB2
  clear HB2
  have FP2 := Lib.hid (FP.out.next hb5)
  clear FP
  have FP := FP2
  clear FP2
  have FX2 := Lib.hid (FX.out.next hb5)
  clear FX
  have FX := FX2
  clear FX2
  have F12 := Lib.hid (F1.out.next hb5)
  clear F1
  have F1 := F12
  clear F12
  have F22 := Lib.hid (F2.out.next hb5)
  clear F2
  have F2 := F22
  clear F22
  have F32 := Lib.hid (F3.out.next hb5)
  clear F3
  have F3 := F32
  clear F32
  clear hb5
  have F4 := Lib.hid hr5
  have F4c := Lib.hid hc5
  have F4z := Lib.hid hnil5
  clear hr5 hc5 hnil5
  go_wp2_with fail
  refine (calls_pair (H.least _ _ _ _ a b _ FX.out FXc.out HL.out H_a.out H_b.out) HLE.out).mono ?_
  rintro e w6 ⟨rfl, hb6⟩
  have hBz := HB.out.size
  have HB2 := Lib.hid (HB.out.trans (hb6.mono hBz))
  clear HB hBz
  have HB := HB2
  clear HB2
  have FP2 := Lib.hid (FP.out.next hb6)
  clear FP
  have FP := FP2
  clear FP2
  have FX2 := Lib.hid (FX.out.next hb6)
  clear FX
  have FX := FX2
  clear FX2
  have F12 := Lib.hid (F1.out.next hb6)
  clear F1
  have F1 := F12
  clear F12
  have F22 := Lib.hid (F2.out.next hb6)
  clear F2
  have F2 := F22
  clear F22
  have F32 := Lib.hid (F3.out.next hb6)
  clear F3
  have F3 := F32
  clear F32
  have F42 := Lib.hid (F4.out.next hb6)
  clear F4
  have F4 := F42
  clear F42
  clear hb6
  go_wp2_with fail
  refine (calls_bool (s_may FP.out HL.out) HMY.out).mono ?_
  rintro e w7 ⟨rfl, hb7⟩
  have hBz := HB.out.size
  have HB2 := Lib.hid (HB.out.trans (hb7.mono hBz))
  clear HB hBz
  have HB := HB2
  clear HB2
  have FP2 := Lib.hid (FP.out.next hb7)
  clear FP
  have FP := FP2
  clear FP2
  have FX2 := Lib.hid (FX.out.next hb7)
  clear FX
  have FX := FX2
  clear FX2
  have F12 := Lib.hid (F1.out.next hb7)
  clear F1
  have F1 := F12
  clear F12
  have F22 := Lib.hid (F2.out.next hb7)
  clear F2
  have F2 := F22
  clear F22
  have F32 := Lib.hid (F3.out.next hb7)
  clear F3
  have F3 := F32
  clear F32
  have F42 := Lib.hid (F4.out.next hb7)
  clear F4
  have F4 := F42
  clear F42
  clear hb7
  go_wp2_with fail
  refine (calls_spost (H.new k _ H_k.out) HNW.out).mono ?_
  rintro e w8 ⟨⟨A8, c8, rfl, hr8, hnil8, hc8⟩, hb8⟩
  have hBz := HB.out.size
  have HB2 := Lib.hid (HB.out.trans (hb8.mono hBz))
  clear HB hBz
  have HB := HB2
  clear HB2
  have FP2 := Lib.hid (FP.out.next hb8)
  clear FP
  have FP := FP2
  clear FP2
  have FX2 := Lib.hid (FX.out.next hb8)
  clear FX
  have FX := FX2
  clear FX2
  have F12 := Lib.hid (F1.out.next hb8)
  clear F1
  have F1 := F12
  clear F12
  have F22 := Lib.hid (F2.out.next hb8)
  clear F2
  have F2 := F22
  clear F22
  have F32 := Lib.hid (F3.out.next hb8)
  clear F3
  have F3 := F32
  clear F32
  have F42 := Lib.hid (F4.out.next hb8)
  clear F4
  have F4 := F42
  clear F42
  clear hb8
  have F5 := Lib.hid hr8
  have F5c := Lib.hid hc8
  have F5z := Lib.hid hnil8
  clear hr8 hc8 hnil8
  go_wp2_with fail
  refine (calls_bool (H.right _ _ _ _ _ FX.out HL.out) rfl).mono ?_
  rintro e w9 ⟨rfl, hb9⟩
  have hBz := HB.out.size
  have HB2 := Lib.hid (HB.out.trans (hb9.mono hBz))
  clear HB hBz
  have HB := HB2
  clear HB2
  have FP2 := Lib.hid (FP.out.next hb9)
  clear FP
  have FP := FP2
  clear FP2
  have FX2 := Lib.hid (FX.out.next hb9)
  clear FX
  have FX := FX2
  clear FX2
  have F12 := Lib.hid (F1.out.next hb9)
  clear F1
  have F1 := F12
  clear F12
  have F22 := Lib.hid (F2.out.next hb9)
  clear F2
  have F2 := F22
  clear F22
  have F32 := Lib.hid (F3.out.next hb9)
  clear F3
  have F3 := F32
  clear F32
  have F42 := Lib.hid (F4.out.next hb9)
  clear F4
  have F4 := F42
  clear F42
  have F52 := Lib.hid (F5.out.next hb9)
  clear F5
  have F5 := F52
  clear F52
  clear hb9
  go_wp2_with fail
  refine (calls_bool (s_right FP.out HL.out) rfl).mono ?_
  rintro e w10 ⟨rfl, hb10⟩
  have hBz := HB.out.size
  have HB2 := Lib.hid (HB.out.trans (hb10.mono hBz))
  clear HB hBz
  have HB := HB2
  clear HB2
  have FP2 := Lib.hid (FP.out.next hb10)
  clear FP
  have FP := FP2
  clear FP2
  have FX2 := Lib.hid (FX.out.next hb10)
  clear FX
  have FX := FX2
  clear FX2
  have F12 := Lib.hid (F1.out.next hb10)
  clear F1
  have F1 := F12
  clear F12
  have F22 := Lib.hid (F2.out.next hb10)
  clear F2
  have F2 := F22
  clear F22
  have F32 := Lib.hid (F3.out.next hb10)
  clear F3
  have F3 := F32
  clear F32
  have F42 := Lib.hid (F4.out.next hb10)
  clear F4
  have F4 := F42
  clear F42
  have F52 := Lib.hid (F5.out.next hb10)
  clear F5
  have F5 := F52
  clear F52
  clear hb10
  go_wp2_with fail
  refine (calls_int (H.at_ _ _ _ _ a _ FX.out HL.out H_a.out) rfl).mono ?_
  rintro e w11 ⟨rfl, hb11⟩
  have hBz := HB.out.size
  have HB2 := Lib.hid (HB.out.trans (hb11.mono hBz))
  clear HB hBz
  have HB := HB2
  clear HB2
  have FP2 := Lib.hid (FP.out.next hb11)
  clear FP
  have FP := FP2
  clear FP2
  have FX2 := Lib.hid (FX.out.next hb11)
  clear FX
  have FX := FX2
  clear FX2
  have F12 := Lib.hid (F1.out.next hb11)
  clear F1
  have F1 := F12
  clear F12
  have F22 := Lib.hid (F2.out.next hb11)
  clear F2
  have F2 := F22
  clear F22
  have F32 := Lib.hid (F3.out.next hb11)
  clear F3
  have F3 := F32
  clear F32
  have F42 := Lib.hid (F4.out.next hb11)
  clear F4
  have F4 := F42
  clear F42
  have F52 := Lib.hid (F5.out.next hb11)
  clear F5
  have F5 := F52
  clear F52
  clear hb11
  go_wp2_with fail
  refine (calls_int (s_at FP.out HL.out) rfl).mono ?_
  rintro e w12 ⟨rfl, hb12⟩
  have hBz := HB.out.size
  have HB2 := Lib.hid (HB.out.trans (hb12.mono hBz))
  clear HB hBz
  have HB := HB2
  clear HB2
  have FP2 := Lib.hid (FP.out.next hb12)
  clear FP
  have FP := FP2
  clear FP2
  have FX2 := Lib.hid (FX.out.next hb12)
  clear FX
  have FX := FX2
  clear FX2
  have F12 := Lib.hid (F1.out.next hb12)
  clear F1
  have F1 := F12
  clear F12
  have F22 := Lib.hid (F2.out.next hb12)
  clear F2
  have F2 := F22
  clear F22
  have F32 := Lib.hid (F3.out.next hb12)
  clear F3
  have F3 := F32
  clear F32
  have F42 := Lib.hid (F4.out.next hb12)
  clear F4
  have F4 := F42
  clear F42
  have F52 := Lib.hid (F5.out.next hb12)
  clear F5
  have F5 := F52
  clear F52
  clear hb12
  go_wp2_with fail
  refine (s_same F1.out F2.out HQ1.out HQ1.out rfl).mono ?_
  rintro e w13 ⟨rfl, hb13⟩
  have hBz := HB.out.size
  have HB2 := Lib.hid (HB.out.trans (hb13.mono hBz))
  clear HB hBz
  have HB := HB2
  clear HB2
  have FP2 := Lib.hid (FP.out.next hb13)
  clear FP
  have FP := FP2
  clear FP2
  have FX2 := Lib.hid (FX.out.next hb13)
  clear FX
  have FX := FX2
  clear FX2
  have F12 := Lib.hid (F1.out.next hb13)
  clear F1
  have F1 := F12
  clear F12
  have F22 := Lib.hid (F2.out.next hb13)
  clear F2
  have F2 := F22
  clear F22
  have F32 := Lib.hid (F3.out.next hb13)
  clear F3
  have F3 := F32
  clear F32
  have F42 := Lib.hid (F4.out.next hb13)
  clear F4
  have F4 := F42
  clear F42
  have F52 := Lib.hid (F5.out.next hb13)
  clear F5
  have F5 := F52
  clear F52
  clear hb13
  go_wp2_with fail
  refine (s_same F3.out F4.out HQ2.out HQ2.out rfl).mono ?_
  rintro e w14 ⟨rfl, hb14⟩
  have hBz := HB.out.size
  have HB2 := Lib.hid (HB.out.trans (hb14.mono hBz))
  clear HB hBz
  have HB := HB2
  clear HB2
  have FP2 := Lib.hid (FP.out.next hb14)
  clear FP
  have FP := FP2
  clear FP2
  have FX2 := Lib.hid (FX.out.next hb14)
  clear FX
  have FX := FX2
  clear FX2
  have F12 := Lib.hid (F1.out.next hb14)
  clear F1
  have F1 := F12
  clear F12
  have F22 := Lib.hid (F2.out.next hb14)
  clear F2
  have F2 := F22
  clear F22
  have F32 := Lib.hid (F3.out.next hb14)
  clear F3
  have F3 := F32
  clear F32
  have F42 := Lib.hid (F4.out.next hb14)
  clear F4
  have F4 := F42
  clear F42
  have F52 := Lib.hid (F5.out.next hb14)
  clear F5
  have F5 := F52
  clear F52
  clear hb14
  go_wp2_with fail
  refine (s_same FX.out FP.out HL.out HL.out rfl).mono ?_
  rintro e w15 ⟨rfl, hb15⟩
  have hBz := HB.out.size
  have HB2 := Lib.hid (HB.out.trans (hb15.mono hBz))
  clear HB hBz
  have HB := HB2
  clear HB2
  have FP2 := Lib.hid (FP.out.next hb15)
  clear FP
  have FP := FP2
  clear FP2
  have FX2 := Lib.hid (FX.out.next hb15)
  clear FX
  have FX := FX2
  clear FX2
  have F12 := Lib.hid (F1.out.next hb15)
  clear F1
  have F1 := F12
  clear F12
  have F22 := Lib.hid (F2.out.next hb15)
  clear F2
  have F2 := F22
  clear F22
  have F32 := Lib.hid (F3.out.next hb15)
  clear F3
  have F3 := F32
  clear F32
  have F42 := Lib.hid (F4.out.next hb15)
  clear F4
  have F4 := F42
  clear F42
  have F52 := Lib.hid (F5.out.next hb15)
  clear F5
  have F5 := F52
  clear F52
  clear hb15
  go_wp2
  go_ret
  exact ⟨rfl, HB.out⟩

theorem stepRight_walk (H : StepOk) (A : Option Addr) (n c : Nat) (p : List (Int × Int)) (a b k : Int) (w : World) (hr : RS w w.heap.size A n p) (hnil : A = none → c = 0) (hnc : n ≤ c) (hn : n ≤ maxLen) (ha : I64 a) (hb : I64 b) (hk : I64 k) :
    Calls Try.prog 3 #[.slice A n c, .int .i64 a, .int .i64 b, .int .i64 k] w fun e w' => e = .returned (.bool true) ∧ Below w.heap.size w w' := by
  by_cases h : 200 < n
  · exact sright_long H A n c a b k w hn h
  have hn2 : n ≤ 200 := by omega
  have hpl : p.length ≤ 200 := by have := hr.1; omega
  have hq1 : (takeR p a b k).1.length ≤ 2000 := by rcases takeR_len p a b k with h | h <;> omega
  have hq2 : (giveR p a b k).1.length ≤ 2000 := by rcases giveR_len p a b k with h | h <;> omega
  obtain ⟨⟨q1, e1⟩, ht1⟩ : ∃ x, takeR p a b k = x := ⟨_, rfl⟩
  obtain ⟨⟨q2, e2⟩, ht2⟩ : ∃ x, giveR p a b k = x := ⟨_, rfl⟩
  rw [ht1] at hq1
  rw [ht2] at hq2
  cases hmy : mayP p a b with
  | true =>
    have hle : leastE p a b = (leastL p a b, 0) := by unfold leastE; rw [if_pos hmy]
    obtain ⟨⟨hc, _, _⟩, f0, _, _⟩ := (mayP_iff p a b).1 hmy
    have hlr := leastR_is hc (a := a) (b := b) f0
    by_cases hk0 : k < 0
    · exact sright_may_low H A n c p a b k w hr hnil hnc hn2 ha hb hk _ _ _ _ ht1 ht2 hq1 hq2 _ hle hmy hlr (by unfold newR; rw [if_neg (by omega)]) hk0
    by_cases hk9 : 1048576 < k
    · exact sright_may_high H A n c p a b k w hr hnil hnc hn2 ha hb hk _ _ _ _ ht1 ht2 hq1 hq2 _ hle hmy hlr (by unfold newR; rw [if_neg (by omega)]) (by omega) hk9
    · exact sright_may_in H A n c p a b k w hr hnil hnc hn2 ha hb hk _ _ _ _ ht1 ht2 hq1 hq2 _ hle hmy hlr (by unfold newR; rw [if_pos (by omega)]) (by omega) (by omega)
  | false =>
    have hle : leastE p a b = (0, 1) := by unfold leastE; rw [hmy]; rfl
    by_cases hk0 : k < 0
    · exact sright_not_low H A n c p a b k w hr hnil hnc hn2 ha hb hk _ _ _ _ ht1 ht2 hq1 hq2 hle hmy (by unfold newR; rw [if_neg (by omega)]) hk0
    by_cases hk9 : 1048576 < k
    · exact sright_not_high H A n c p a b k w hr hnil hnc hn2 ha hb hk _ _ _ _ ht1 ht2 hq1 hq2 hle hmy (by unfold newR; rw [if_neg (by omega)]) (by omega) hk9
    · exact sright_not_in H A n c p a b k w hr hnil hnc hn2 ha hb hk _ _ _ _ ht1 ht2 hq1 hq2 hle hmy (by unfold newR; rw [if_pos (by omega)]) (by omega) (by omega)

end Go.Proofs.Ytiilnacfdgmfcaa
