/- The statement HealthRight, as a walk over the contracts: of any list of things, list of numbers and two numbers the call returns true. -/
import Derived.Test.YtnlgnpdajblfnaaHealthAwake
namespace Go.Proofs.Ytnlgnpdajblfnaa
open Go.RowKit

theorem setL_len (g : Gr) (h : List Int) (a how : Int) : (setL g h a how).1.length = h.length := by
  unfold setL
  split
  · rfl
  · split
    · rfl
    · simp
theorem setL_i64 {g : Gr} {h : List Int} {a how : Int} (hh : ∀ x ∈ h, I64 x) : ∀ x ∈ (setL g h a how).1, I64 x := by
  unfold setL
  split
  · exact hh
  · rename_i e
    split
    · exact hh
    · intro x hx
      rcases List.mem_or_eq_of_mem_set hx with hx | rfl
      · exact hh x hx
      · have := Decidable.not_not.1 e
        unfold I64; omega

set_option maxRecDepth 100000 in
set_option maxHeartbeats 4000000 in
theorem healthRight_l0 (H : HealthOk) (A : Option Addr) (n c : Nat) (A2 : Option Addr) (n2 c2 : Nat) (a how : Int) (w : World) (h60 : 60 < n) (hn : n ≤ maxLen) (hG : Glob w) :
    Calls Try.prog 3 #[.slice A n c, .slice A2 n2 c2, .int .i64 a, .int .i64 how] w fun e w' => e = .returned (.bool true) ∧ Below w.heap.size w w' := by
  unfold maxLen at hn
  have HG := Lib.hid hG
  clear hG
  go_enter Try.func3, Try.ntmps3
  go_wp2_with fail
  refine (healthAwake_any H _ HG.out).mono ?_
  rintro e w1 ⟨rfl, hb1⟩
  have HB1 := Lib.hid hb1
  clear hb1
  go_wp2
  go_ret
  exact ⟨rfl, HB1.out⟩
set_option maxRecDepth 100000 in
set_option maxHeartbeats 4000000 in
theorem healthRight_l1 (H : HealthOk) (A : Option Addr) (n c : Nat) (A2 : Option Addr) (n2 c2 : Nat) (a how : Int) (w : World) (h60 : ¬ 60 < n) (h1 : 60 < n2) (hn2 : n2 ≤ maxLen) (hG : Glob w) :
    Calls Try.prog 3 #[.slice A n c, .slice A2 n2 c2, .int .i64 a, .int .i64 how] w fun e w' => e = .returned (.bool true) ∧ Below w.heap.size w w' := by
  unfold maxLen at hn2
  have h60d : decide (60 < (n : Int)) = false := by simp; omega
  have HG := Lib.hid hG
  clear hG
  go_enter Try.func3, Try.ntmps3
  go_wp2_with fail
  refine (healthAwake_any H _ HG.out).mono ?_
  rintro e w1 ⟨rfl, hb1⟩
  have HB1 := Lib.hid hb1
  clear hb1
  go_wp2
  go_ret
  exact ⟨rfl, HB1.out⟩
set_option maxRecDepth 100000 in
set_option maxHeartbeats 4000000 in
theorem healthRight_no (H : HealthOk) (A : Option Addr) (n c : Nat) (A2 : Option Addr) (n2 c2 : Nat) (g : Gr) (h : List Int) (a how : Int) (w : World) (hg : GAsk w A n c g) (h60 : n ≤ 60) (hl : LAsk w A2 n2 c2 h) (h260 : n2 ≤ 60) (ha : I64 a) (hw : I64 how) (hG : Glob w) (l1 : List Int) (er : Int) (hst : setL g h a how = (l1, er)) (hl1 : l1.length ≤ 60) (hr : rightG g = false) :
    Calls Try.prog 3 #[.slice A n c, .slice A2 n2 c2, .int .i64 a, .int .i64 how] w fun e w' => e = .returned (.bool true) ∧ Below w.heap.size w w' := by
  have FG := Lib.hid hg
  have HG := Lib.hid hG
  have FL := Lib.hid hl
  have HA := Lib.hid ha
  have HW := Lib.hid hw
  have HST := Lib.hid hst
  have HB := Lib.hid (Below.refl w.heap.size w)
  obtain ⟨rh, hrh⟩ : ∃ r, rightH g h = r := ⟨_, rfl⟩
  obtain ⟨wo, hwo⟩ : ∃ r, worstL g h a = r := ⟨_, rfl⟩
  have HRH := Lib.hid hrh
  have HWO := Lib.hid hwo
  have h60d : decide (60 < (n : Int)) = false := by simp; omega
  have h260d : decide (60 < (n2 : Int)) = false := by simp; omega
  have HRG := Lib.hid hr
  have HNW := Lib.hid (new_none hr)
  clear hg hl ha hw hG hst hr hrh hwo
  go_enter Try.func3, Try.ntmps3
  go_wp2_with fail
  refine (healthAwake_any H _ HG.out).mono ?_
  rintro e w1 ⟨rfl, hb1⟩
  have hBz := HB.out.size
  have HB2 := Lib.hid (HB.out.trans (hb1.mono hBz))
  clear HB hBz
  have HB := HB2
  clear HB2
  have HG2 := Lib.hid (HG.out.next hb1)
  clear HG
  have HG := HG2
  clear HG2
  have FG2 := Lib.hid (FG.out.next hb1)
  clear FG
  have FG := FG2
  clear FG2
  have FL2 := Lib.hid (FL.out.next hb1)
  clear FL
  have FL := FL2
  clear FL2
  clear hb1
  go_wp2_with fail
  refine (calls_iepost (H.set _ _ _ _ _ _ _ _ a how _ FG.out FL.out HA.out HW.out HG.out) HST.out).mono ?_
  rintro e w2 ⟨⟨A2, c2, rfl, hr2, hnil2, hc2⟩, hb2⟩
  have hBz := HB.out.size
  have HB2 := Lib.hid (HB.out.trans (hb2.mono hBz))
  clear HB hBz
  have HB := HB2
  clear HB2
  have HG2 := Lib.hid (HG.out.next hb2)
  clear HG
  have HG := HG2
  clear HG2
  have FG2 := Lib.hid (FG.out.next hb2)
  clear FG
  have FG := FG2
  clear FG2
  have FL2 := Lib.hid (FL.out.next hb2)
  clear FL
  have FL := FL2
  clear FL2
  clear hb2
  have F1 := Lib.hid hr2
  have F1c := Lib.hid hc2
  have F1z := Lib.hid hnil2
  clear hr2 hc2 hnil2
  go_wp2_with fail
  refine (calls_iepost (refSetH_any _ _ _ _ _ _ _ _ a how _ FG.out.reads (ml300 FG.out.few) FL.out.reads (ml300 FL.out.few) FL.out.nil FL.out.cap) HST.out).mono ?_
  rintro e w3 ⟨⟨A3, c3, rfl, hr3, hnil3, hc3⟩, hb3⟩
  have hBz := HB.out.size
  have HB2 := Lib.hid (HB.out.trans (hb3.mono hBz))
  clear HB hBz
  have HB := HB2
  clear HB2
  have HG2 := Lib.hid (HG.out.next hb3)
  clear HG
  have HG := HG2
  clear HG2
  have FG2 := Lib.hid (FG.out.next hb3)
  clear FG
  have FG := FG2
  clear FG2
  have FL2 := Lib.hid (FL.out.next hb3)
  clear FL
  have FL := FL2
  clear FL2
  have F12 := Lib.hid (F1.out.next hb3)
  clear F1
  have F1 := F12
  clear F12
  clear hb3
  have F2 := Lib.hid hr3
  have F2c := Lib.hid hc3
  have F2z := Lib.hid hnil3
  clear hr3 hc3 hnil3
  clear F1c F1z F2c F2z
  go_wp2_with fail
  refine (calls_ipost (H.new _ _ _ _ _ FG.out HG.out) HNW.out).mono ?_
  rintro e w4 ⟨⟨A4, c4, rfl, hr4, hnil4, hc4⟩, hb4⟩
  have hBz := HB.out.size
  have HB2 := Lib.hid (HB.out.trans (hb4.mono hBz))
  clear HB hBz
  have HB := HB2
  clear HB2
  have HG2 := Lib.hid (HG.out.next hb4)
  clear HG
  have HG := HG2
  clear HG2
  have FG2 := Lib.hid (FG.out.next hb4)
  clear FG
  have FG := FG2
  clear FG2
  have FL2 := Lib.hid (FL.out.next hb4)
  clear FL
  have FL := FL2
  clear FL2
  have F12 := Lib.hid (F1.out.next hb4)
  clear F1
  have F1 := F12
  clear F12
  have F22 := Lib.hid (F2.out.next hb4)
  clear F2
  have F2 := F22
  clear F22
  clear hb4
  have F3 := Lib.hid hr4
  have F3c := Lib.hid hc4
  have F3z := Lib.hid hnil4
  clear hr4 hc4 hnil4
  clear F3
  clear F3c F3z
  go_wp2_with fail
  refine (calls_bool (refRightG_any _ _ _ _ _ FG.out.reads (ml300 FG.out.few)) HRG.out).mono ?_
  rintro e w5 ⟨rfl, hb5⟩
  have hBz := HB.out.size
  have HB2 := Lib.hid (HB.out.trans (hb5.mono hBz))
  clear HB hBz
  have HB := HB2
  clear HB2
  have HG2 := Lib.hid (HG.out.next hb5)
  clear HG
  have HG := HG2
  clear HG2
  have FG2 := Lib.hid (FG.out.next hb5)
  clear FG
  have FG := FG2
  clear FG2
  have FL2 := Lib.hid (FL.out.next hb5)
  clear FL
  have FL := FL2
  clear FL2
  have F12 := Lib.hid (F1.out.next hb5)
  clear F1
  have F1 := F12
  clear F12
  have F22 := Lib.hid (F2.out.next hb5)
  clear F2
  have F2 := F22
  clear F22
  clear hb5
  go_wp2_with fail
  refine (calls_bool (H.right _ _ _ _ _ _ _ _ _ FG.out FL.out.wide HG.out) HRH.out).mono ?_
  rintro e w6 ⟨rfl, hb6⟩
  have hBz := HB.out.size
  have HB2 := Lib.hid (HB.out.trans (hb6.mono hBz))
  clear HB hBz
  have HB := HB2
  clear HB2
  have HG2 := Lib.hid (HG.out.next hb6)
  clear HG
  have HG := HG2
  clear HG2
  have FG2 := Lib.hid (FG.out.next hb6)
  clear FG
  have FG := FG2
  clear FG2
  have FL2 := Lib.hid (FL.out.next hb6)
  clear FL
  have FL := FL2
  clear FL2
  have F12 := Lib.hid (F1.out.next hb6)
  clear F1
  have F1 := F12
  clear F12
  have F22 := Lib.hid (F2.out.next hb6)
  clear F2
  have F2 := F22
  clear F22
  clear hb6
  go_wp2_with fail
  refine (calls_bool (refRightH_any _ _ _ _ _ _ _ _ _ FG.out.reads (ml300 FG.out.few) FL.out.reads (ml300 FL.out.few)) HRH.out).mono ?_
  rintro e w7 ⟨rfl, hb7⟩
  have hBz := HB.out.size
  have HB2 := Lib.hid (HB.out.trans (hb7.mono hBz))
  clear HB hBz
  have HB := HB2
  clear HB2
  have HG2 := Lib.hid (HG.out.next hb7)
  clear HG
  have HG := HG2
  clear HG2
  have FG2 := Lib.hid (FG.out.next hb7)
  clear FG
  have FG := FG2
  clear FG2
  have FL2 := Lib.hid (FL.out.next hb7)
  clear FL
  have FL := FL2
  clear FL2
  have F12 := Lib.hid (F1.out.next hb7)
  clear F1
  have F1 := F12
  clear F12
  have F22 := Lib.hid (F2.out.next hb7)
  clear F2
  have F2 := F22
  clear F22
  clear hb7
  go_wp2_with fail
  refine (ri_same F1.out F2.out (by unfold maxLen; omega) (by unfold maxLen; omega) (same_self _)).mono ?_
  rintro e w8 ⟨rfl, hb8⟩
  have hBz := HB.out.size
  have HB2 := Lib.hid (HB.out.trans (hb8.mono hBz))
  clear HB hBz
  have HB := HB2
  clear HB2
  have HG2 := Lib.hid (HG.out.next hb8)
  clear HG
  have HG := HG2
  clear HG2
  have FG2 := Lib.hid (FG.out.next hb8)
  clear FG
  have FG := FG2
  clear FG2
  have FL2 := Lib.hid (FL.out.next hb8)
  clear FL
  have FL := FL2
  clear FL2
  have F12 := Lib.hid (F1.out.next hb8)
  clear F1
  have F1 := F12
  clear F12
  have F22 := Lib.hid (F2.out.next hb8)
  clear F2
  have F2 := F22
  clear F22
  clear hb8
  clear F1
  clear F2
  go_wp2_with fail
  refine (calls_int (H.worst _ _ _ _ _ _ _ _ a _ FG.out FL.out HA.out HG.out) HWO.out).mono ?_
  rintro e w9 ⟨rfl, hb9⟩
  have hBz := HB.out.size
  have HB2 := Lib.hid (HB.out.trans (hb9.mono hBz))
  clear HB hBz
  have HB := HB2
  clear HB2
  have HG2 := Lib.hid (HG.out.next hb9)
  clear HG
  have HG := HG2
  clear HG2
  have FG2 := Lib.hid (FG.out.next hb9)
  clear FG
  have FG := FG2
  clear FG2
  have FL2 := Lib.hid (FL.out.next hb9)
  clear FL
  have FL := FL2
  clear FL2
  clear hb9
  go_wp2_with fail
  refine (calls_int (refWorstH_any _ _ _ _ _ _ _ _ a _ FG.out.reads (ml300 FG.out.few) FL.out.reads (ml300 FL.out.few)) HWO.out).mono ?_
  rintro e w10 ⟨rfl, hb10⟩
  have hBz := HB.out.size
  have HB2 := Lib.hid (HB.out.trans (hb10.mono hBz))
  clear HB hBz
  have HB := HB2
  clear HB2
  have HG2 := Lib.hid (HG.out.next hb10)
  clear HG
  have HG := HG2
  clear HG2
  have FG2 := Lib.hid (FG.out.next hb10)
  clear FG
  have FG := FG2
  clear FG2
  have FL2 := Lib.hid (FL.out.next hb10)
  clear FL
  have FL := FL2
  clear FL2
  clear hb10
  go_wp2_with fail
  refine (H.usable _ _ _ _ _ _ _ _ _ FG.out FL.out HG.out).mono ?_
  rintro e w11 ⟨⟨A11, c11, rfl, hr11, hnil11, hc11⟩, hb11⟩
  have hBz := HB.out.size
  have HB2 := Lib.hid (HB.out.trans (hb11.mono hBz))
  clear HB hBz
  have HB := HB2
  clear HB2
  have HG2 := Lib.hid (HG.out.next hb11)
  clear HG
  have HG := HG2
  clear HG2
  have FG2 := Lib.hid (FG.out.next hb11)
  clear FG
  have FG := FG2
  clear FG2
  have FL2 := Lib.hid (FL.out.next hb11)
  clear FL
  have FL := FL2
  clear FL2
  clear hb11
  have F5 := Lib.hid hr11
  have F5c := Lib.hid hc11
  have F5z := Lib.hid hnil11
  clear hr11 hc11 hnil11
  go_wp2_with fail
  refine (refBelowH_any _ _ _ _ _ _ _ _ 0 _ FG.out.reads (ml300 FG.out.few) FL.out.reads (ml300 FL.out.few)).mono ?_
  rintro e w12 ⟨⟨A12, c12, rfl, hr12, hnil12, hc12⟩, hb12⟩
  have hBz := HB.out.size
  have HB2 := Lib.hid (HB.out.trans (hb12.mono hBz))
  clear HB hBz
  have HB := HB2
  clear HB2
  have HG2 := Lib.hid (HG.out.next hb12)
  clear HG
  have HG := HG2
  clear HG2
  have FG2 := Lib.hid (FG.out.next hb12)
  clear FG
  have FG := FG2
  clear FG2
  have FL2 := Lib.hid (FL.out.next hb12)
  clear FL
  have FL := FL2
  clear FL2
  have F52 := Lib.hid (F5.out.next hb12)
  clear F5
  have F5 := F52
  clear F52
  clear hb12
  have F6 := Lib.hid hr12
  have F6c := Lib.hid hc12
  have F6z := Lib.hid hnil12
  clear hr12 hc12 hnil12
  go_wp2_with fail
  refine (ri_same F5.out F6.out (ml300 (Nat.le_trans (belowL_len _) (by omega))) (ml300 (Nat.le_trans (belowL_len _) (by omega))) (same_self _)).mono ?_
  rintro e w13 ⟨rfl, hb13⟩
  have hBz := HB.out.size
  have HB2 := Lib.hid (HB.out.trans (hb13.mono hBz))
  clear HB hBz
  have HB := HB2
  clear HB2
  have HG2 := Lib.hid (HG.out.next hb13)
  clear HG
  have HG := HG2
  clear HG2
  have FG2 := Lib.hid (FG.out.next hb13)
  clear FG
  have FG := FG2
  clear FG2
  have FL2 := Lib.hid (FL.out.next hb13)
  clear FL
  have FL := FL2
  clear FL2
  have F52 := Lib.hid (F5.out.next hb13)
  clear F5
  have F5 := F52
  clear F52
  have F62 := Lib.hid (F6.out.next hb13)
  clear F6
  have F6 := F62
  clear F62
  clear hb13
  clear F5
  clear F6
  clear F5c F5z F6c F6z
  go_wp2_with fail
  refine (H.works _ _ _ _ _ _ _ _ _ FG.out FL.out HG.out).mono ?_
  rintro e w14 ⟨⟨A14, c14, rfl, hr14, hnil14, hc14⟩, hb14⟩
  have hBz := HB.out.size
  have HB2 := Lib.hid (HB.out.trans (hb14.mono hBz))
  clear HB hBz
  have HB := HB2
  clear HB2
  have HG2 := Lib.hid (HG.out.next hb14)
  clear HG
  have HG := HG2
  clear HG2
  have FG2 := Lib.hid (FG.out.next hb14)
  clear FG
  have FG := FG2
  clear FG2
  have FL2 := Lib.hid (FL.out.next hb14)
  clear FL
  have FL := FL2
  clear FL2
  clear hb14
  have F5 := Lib.hid hr14
  have F5c := Lib.hid hc14
  have F5z := Lib.hid hnil14
  clear hr14 hc14 hnil14
  go_wp2_with fail
  refine (refBelowH_any _ _ _ _ _ _ _ _ 1 _ FG.out.reads (ml300 FG.out.few) FL.out.reads (ml300 FL.out.few)).mono ?_
  rintro e w15 ⟨⟨A15, c15, rfl, hr15, hnil15, hc15⟩, hb15⟩
  have hBz := HB.out.size
  have HB2 := Lib.hid (HB.out.trans (hb15.mono hBz))
  clear HB hBz
  have HB := HB2
  clear HB2
  have HG2 := Lib.hid (HG.out.next hb15)
  clear HG
  have HG := HG2
  clear HG2
  have FG2 := Lib.hid (FG.out.next hb15)
  clear FG
  have FG := FG2
  clear FG2
  have FL2 := Lib.hid (FL.out.next hb15)
  clear FL
  have FL := FL2
  clear FL2
  have F52 := Lib.hid (F5.out.next hb15)
  clear F5
  have F5 := F52
  clear F52
  clear hb15
  have F6 := Lib.hid hr15
  have F6c := Lib.hid hc15
  have F6z := Lib.hid hnil15
  clear hr15 hc15 hnil15
  go_wp2_with fail
  refine (ri_same F5.out F6.out (ml300 (Nat.le_trans (belowL_len _) (by omega))) (ml300 (Nat.le_trans (belowL_len _) (by omega))) (same_self _)).mono ?_
  rintro e w16 ⟨rfl, hb16⟩
  have hBz := HB.out.size
  have HB2 := Lib.hid (HB.out.trans (hb16.mono hBz))
  clear HB hBz
  have HB := HB2
  clear HB2
  have HG2 := Lib.hid (HG.out.next hb16)
  clear HG
  have HG := HG2
  clear HG2
  have FG2 := Lib.hid (FG.out.next hb16)
  clear FG
  have FG := FG2
  clear FG2
  have FL2 := Lib.hid (FL.out.next hb16)
  clear FL
  have FL := FL2
  clear FL2
  have F52 := Lib.hid (F5.out.next hb16)
  clear F5
  have F5 := F52
  clear F52
  have F62 := Lib.hid (F6.out.next hb16)
  clear F6
  have F6 := F62
  clear F62
  clear hb16
  clear F5
  clear F6
  clear F5c F5z F6c F6z
  go_wp2
  go_ret
  exact ⟨rfl, HB.out⟩

set_option maxRecDepth 100000 in
set_option maxHeartbeats 4000000 in
theorem healthRight_yes (H : HealthOk) (A : Option Addr) (n c : Nat) (A2 : Option Addr) (n2 c2 : Nat) (g : Gr) (h : List Int) (a how : Int) (w : World) (hg : GAsk w A n c g) (h60 : n ≤ 60) (hl : LAsk w A2 n2 c2 h) (h260 : n2 ≤ 60) (ha : I64 a) (hw : I64 how) (hG : Glob w) (l1 : List Int) (er : Int) (hst : setL g h a how = (l1, er)) (hl1 : l1.length ≤ 60) (hr : rightG g = true) (L0 L1 : List Int) (hnw : newL g = L0) (hun : belowL g L0 0 = L1) (hl0 : L0.length = n) (hln : L1.length = n) (hn0 : 0 < n) (hrn : rightH g L0 = true) :
    Calls Try.prog 3 #[.slice A n c, .slice A2 n2 c2, .int .i64 a, .int .i64 how] w fun e w' => e = .returned (.bool true) ∧ Below w.heap.size w w' := by
  have FG := Lib.hid hg
  have HG := Lib.hid hG
  have FL := Lib.hid hl
  have HA := Lib.hid ha
  have HW := Lib.hid hw
  have HST := Lib.hid hst
  have HB := Lib.hid (Below.refl w.heap.size w)
  obtain ⟨rh, hrh⟩ : ∃ r, rightH g h = r := ⟨_, rfl⟩
  obtain ⟨wo, hwo⟩ : ∃ r, worstL g h a = r := ⟨_, rfl⟩
  have HRH := Lib.hid hrh
  have HWO := Lib.hid hwo
  have h60d : decide (60 < (n : Int)) = false := by simp; omega
  have h260d : decide (60 < (n2 : Int)) = false := by simp; omega
  have HRG := Lib.hid hr
  have HNW := Lib.hid hnw
  have HUN := Lib.hid hun
  have HRN := Lib.hid hrn
  have HL0 := Lib.hid (small_i64 (rightH_is hrn).2.2)
  have q0 : ((L0.length : Int) != (n : Int)) = false := by simp; omega
  have q1 : decide (0 < L0.length) = true := by simp; omega
  have q2 : ((L1.length : Int) != (n : Int)) = false := by simp; omega
  have hl0' : L0.length ≤ 60 := by omega
  clear hg hl ha hw hG hst hr hrh hwo hnw hun hrn hl0 hln
  go_enter Try.func3, Try.ntmps3
  go_wp2_with fail
  refine (healthAwake_any H _ HG.out).mono ?_
  rintro e w1 ⟨rfl, hb1⟩
  have hBz := HB.out.size
  have HB2 := Lib.hid (HB.out.trans (hb1.mono hBz))
  clear HB hBz
  have HB := HB2
  clear HB2
  have HG2 := Lib.hid (HG.out.next hb1)
  clear HG
  have HG := HG2
  clear HG2
  have FG2 := Lib.hid (FG.out.next hb1)
  clear FG
  have FG := FG2
  clear FG2
  have FL2 := Lib.hid (FL.out.next hb1)
  clear FL
  have FL := FL2
  clear FL2
  clear hb1
  go_wp2_with fail
  refine (calls_iepost (H.set _ _ _ _ _ _ _ _ a how _ FG.out FL.out HA.out HW.out HG.out) HST.out).mono ?_
  rintro e w2 ⟨⟨A2, c2, rfl, hr2, hnil2, hc2⟩, hb2⟩
  have hBz := HB.out.size
  have HB2 := Lib.hid (HB.out.trans (hb2.mono hBz))
  clear HB hBz
  have HB := HB2
  clear HB2
  have HG2 := Lib.hid (HG.out.next hb2)
  clear HG
  have HG := HG2
  clear HG2
  have FG2 := Lib.hid (FG.out.next hb2)
  clear FG
  have FG := FG2
  clear FG2
  have FL2 := Lib.hid (FL.out.next hb2)
  clear FL
  have FL := FL2
  clear FL2
  clear hb2
  have F1 := Lib.hid hr2
  have F1c := Lib.hid hc2
  have F1z := Lib.hid hnil2
  clear hr2 hc2 hnil2
  go_wp2_with fail
  refine (calls_iepost (refSetH_any _ _ _ _ _ _ _ _ a how _ FG.out.reads (ml300 FG.out.few) FL.out.reads (ml300 FL.out.few) FL.out.nil FL.out.cap) HST.out).mono ?_
  rintro e w3 ⟨⟨A3, c3, rfl, hr3, hnil3, hc3⟩, hb3⟩
  have hBz := HB.out.size
  have HB2 := Lib.hid (HB.out.trans (hb3.mono hBz))
  clear HB hBz
  have HB := HB2
  clear HB2
  have HG2 := Lib.hid (HG.out.next hb3)
  clear HG
  have HG := HG2
  clear HG2
  have FG2 := Lib.hid (FG.out.next hb3)
  clear FG
  have FG := FG2
  clear FG2
  have FL2 := Lib.hid (FL.out.next hb3)
  clear FL
  have FL := FL2
  clear FL2
  have F12 := Lib.hid (F1.out.next hb3)
  clear F1
  have F1 := F12
  clear F12
  clear hb3
  have F2 := Lib.hid hr3
  have F2c := Lib.hid hc3
  have F2z := Lib.hid hnil3
  clear hr3 hc3 hnil3
  clear F1c F1z F2c F2z
  go_wp2_with fail
  refine (calls_ipost (H.new _ _ _ _ _ FG.out HG.out) HNW.out).mono ?_
  rintro e w4 ⟨⟨A4, c4, rfl, hr4, hnil4, hc4⟩, hb4⟩
  have hBz := HB.out.size
  have HB2 := Lib.hid (HB.out.trans (hb4.mono hBz))
  clear HB hBz
  have HB := HB2
  clear HB2
  have HG2 := Lib.hid (HG.out.next hb4)
  clear HG
  have HG := HG2
  clear HG2
  have FG2 := Lib.hid (FG.out.next hb4)
  clear FG
  have FG := FG2
  clear FG2
  have FL2 := Lib.hid (FL.out.next hb4)
  clear FL
  have FL := FL2
  clear FL2
  have F12 := Lib.hid (F1.out.next hb4)
  clear F1
  have F1 := F12
  clear F12
  have F22 := Lib.hid (F2.out.next hb4)
  clear F2
  have F2 := F22
  clear F22
  clear hb4
  have F3 := Lib.hid hr4
  have F3c := Lib.hid hc4
  have F3z := Lib.hid hnil4
  clear hr4 hc4 hnil4
  have F3L := Lib.hid (LAsk.mk F3.out F3z.out F3c.out (by omega) (HL0.out))
  clear F3c F3z
  clear F3
  go_wp2_with fail
  refine (calls_bool (refRightG_any _ _ _ _ _ FG.out.reads (ml300 FG.out.few)) HRG.out).mono ?_
  rintro e w5 ⟨rfl, hb5⟩
  have hBz := HB.out.size
  have HB2 := Lib.hid (HB.out.trans (hb5.mono hBz))
  clear HB hBz
  have HB := HB2
  clear HB2
  have HG2 := Lib.hid (HG.out.next hb5)
  clear HG
  have HG := HG2
  clear HG2
  have FG2 := Lib.hid (FG.out.next hb5)
  clear FG
  have FG := FG2
  clear FG2
  have FL2 := Lib.hid (FL.out.next hb5)
  clear FL
  have FL := FL2
  clear FL2
  have F12 := Lib.hid (F1.out.next hb5)
  clear F1
  have F1 := F12
  clear F12
  have F22 := Lib.hid (F2.out.next hb5)
  clear F2
  have F2 := F22
  clear F22
  have F3L2 := Lib.hid (F3L.out.next hb5)
  clear F3L
  have F3L := F3L2
  clear F3L2
  clear hb5
  go_wp2_with fail
  refine (calls_bool (H.right _ _ _ _ _ _ _ _ _ FG.out F3L.out.wide HG.out) HRN.out).mono ?_
  rintro e w6 ⟨rfl, hb6⟩
  have hBz := HB.out.size
  have HB2 := Lib.hid (HB.out.trans (hb6.mono hBz))
  clear HB hBz
  have HB := HB2
  clear HB2
  have HG2 := Lib.hid (HG.out.next hb6)
  clear HG
  have HG := HG2
  clear HG2
  have FG2 := Lib.hid (FG.out.next hb6)
  clear FG
  have FG := FG2
  clear FG2
  have FL2 := Lib.hid (FL.out.next hb6)
  clear FL
  have FL := FL2
  clear FL2
  have F12 := Lib.hid (F1.out.next hb6)
  clear F1
  have F1 := F12
  clear F12
  have F22 := Lib.hid (F2.out.next hb6)
  clear F2
  have F2 := F22
  clear F22
  have F3L2 := Lib.hid (F3L.out.next hb6)
  clear F3L
  have F3L := F3L2
  clear F3L2
  clear hb6
  go_wp2_with fail
  refine (calls_ipost (H.usable _ _ _ _ _ _ _ _ _ FG.out F3L.out HG.out) HUN.out).mono ?_
  rintro e w7 ⟨⟨A7, c7, rfl, hr7, hnil7, hc7⟩, hb7⟩
  have hBz := HB.out.size
  have HB2 := Lib.hid (HB.out.trans (hb7.mono hBz))
  clear HB hBz
  have HB := HB2
  clear HB2
  have HG2 := Lib.hid (HG.out.next hb7)
  clear HG
  have HG := HG2
  clear HG2
  have FG2 := Lib.hid (FG.out.next hb7)
  clear FG
  have FG := FG2
  clear FG2
  have FL2 := Lib.hid (FL.out.next hb7)
  clear FL
  have FL := FL2
  clear FL2
  have F12 := Lib.hid (F1.out.next hb7)
  clear F1
  have F1 := F12
  clear F12
  have F22 := Lib.hid (F2.out.next hb7)
  clear F2
  have F2 := F22
  clear F22
  have F3L2 := Lib.hid (F3L.out.next hb7)
  clear F3L
  have F3L := F3L2
  clear F3L2
  clear hb7
  have F4 := Lib.hid hr7
  have F4c := Lib.hid hc7
  have F4z := Lib.hid hnil7
  clear hr7 hc7 hnil7
  clear F4
  clear F3L
  clear F4c F4z
  go_wp2_with fail
  refine (calls_bool (H.right _ _ _ _ _ _ _ _ _ FG.out FL.out.wide HG.out) HRH.out).mono ?_
  rintro e w8 ⟨rfl, hb8⟩
  have hBz := HB.out.size
  have HB2 := Lib.hid (HB.out.trans (hb8.mono hBz))
  clear HB hBz
  have HB := HB2
  clear HB2
  have HG2 := Lib.hid (HG.out.next hb8)
  clear HG
  have HG := HG2
  clear HG2
  have FG2 := Lib.hid (FG.out.next hb8)
  clear FG
  have FG := FG2
  clear FG2
  have FL2 := Lib.hid (FL.out.next hb8)
  clear FL
  have FL := FL2
  clear FL2
  have F12 := Lib.hid (F1.out.next hb8)
  clear F1
  have F1 := F12
  clear F12
  have F22 := Lib.hid (F2.out.next hb8)
  clear F2
  have F2 := F22
  clear F22
  clear hb8
  go_wp2_with fail
  refine (calls_bool (refRightH_any _ _ _ _ _ _ _ _ _ FG.out.reads (ml300 FG.out.few) FL.out.reads (ml300 FL.out.few)) HRH.out).mono ?_
  rintro e w9 ⟨rfl, hb9⟩
  have hBz := HB.out.size
  have HB2 := Lib.hid (HB.out.trans (hb9.mono hBz))
  clear HB hBz
  have HB := HB2
  clear HB2
  have HG2 := Lib.hid (HG.out.next hb9)
  clear HG
  have HG := HG2
  clear HG2
  have FG2 := Lib.hid (FG.out.next hb9)
  clear FG
  have FG := FG2
  clear FG2
  have FL2 := Lib.hid (FL.out.next hb9)
  clear FL
  have FL := FL2
  clear FL2
  have F12 := Lib.hid (F1.out.next hb9)
  clear F1
  have F1 := F12
  clear F12
  have F22 := Lib.hid (F2.out.next hb9)
  clear F2
  have F2 := F22
  clear F22
  clear hb9
  go_wp2_with fail
  refine (ri_same F1.out F2.out (by unfold maxLen; omega) (by unfold maxLen; omega) (same_self _)).mono ?_
  rintro e w10 ⟨rfl, hb10⟩
  have hBz := HB.out.size
  have HB2 := Lib.hid (HB.out.trans (hb10.mono hBz))
  clear HB hBz
  have HB := HB2
  clear HB2
  have HG2 := Lib.hid (HG.out.next hb10)
  clear HG
  have HG := HG2
  clear HG2
  have FG2 := Lib.hid (FG.out.next hb10)
  clear FG
  have FG := FG2
  clear FG2
  have FL2 := Lib.hid (FL.out.next hb10)
  clear FL
  have FL := FL2
  clear FL2
  have F12 := Lib.hid (F1.out.next hb10)
  clear F1
  have F1 := F12
  clear F12
  have F22 := Lib.hid (F2.out.next hb10)
  clear F2
  have F2 := F22
  clear F22
  clear hb10
  clear F1
  clear F2
  go_wp2_with fail
  refine (calls_int (H.worst _ _ _ _ _ _ _ _ a _ FG.out FL.out HA.out HG.out) HWO.out).mono ?_
  rintro e w11 ⟨rfl, hb11⟩
  have hBz := HB.out.size
  have HB2 := Lib.hid (HB.out.trans (hb11.mono hBz))
  clear HB hBz
  have HB := HB2
  clear HB2
  have HG2 := Lib.hid (HG.out.next hb11)
  clear HG
  have HG := HG2
  clear HG2
  have FG2 := Lib.hid (FG.out.next hb11)
  clear FG
  have FG := FG2
  clear FG2
  have FL2 := Lib.hid (FL.out.next hb11)
  clear FL
  have FL := FL2
  clear FL2
  clear hb11
  go_wp2_with fail
  refine (calls_int (refWorstH_any _ _ _ _ _ _ _ _ a _ FG.out.reads (ml300 FG.out.few) FL.out.reads (ml300 FL.out.few)) HWO.out).mono ?_
  rintro e w12 ⟨rfl, hb12⟩
  have hBz := HB.out.size
  have HB2 := Lib.hid (HB.out.trans (hb12.mono hBz))
  clear HB hBz
  have HB := HB2
  clear HB2
  have HG2 := Lib.hid (HG.out.next hb12)
  clear HG
  have HG := HG2
  clear HG2
  have FG2 := Lib.hid (FG.out.next hb12)
  clear FG
  have FG := FG2
  clear FG2
  have FL2 := Lib.hid (FL.out.next hb12)
  clear FL
  have FL := FL2
  clear FL2
  clear hb12
  go_wp2_with fail
  refine (H.usable _ _ _ _ _ _ _ _ _ FG.out FL.out HG.out).mono ?_
  rintro e w13 ⟨⟨A13, c13, rfl, hr13, hnil13, hc13⟩, hb13⟩
  have hBz := HB.out.size
  have HB2 := Lib.hid (HB.out.trans (hb13.mono hBz))
  clear HB hBz
  have HB := HB2
  clear HB2
  have HG2 := Lib.hid (HG.out.next hb13)
  clear HG
  have HG := HG2
  clear HG2
  have FG2 := Lib.hid (FG.out.next hb13)
  clear FG
  have FG := FG2
  clear FG2
  have FL2 := Lib.hid (FL.out.next hb13)
  clear FL
  have FL := FL2
  clear FL2
  clear hb13
  have F5 := Lib.hid hr13
  have F5c := Lib.hid hc13
  have F5z := Lib.hid hnil13
  clear hr13 hc13 hnil13
  go_wp2_with fail
  refine (refBelowH_any _ _ _ _ _ _ _ _ 0 _ FG.out.reads (ml300 FG.out.few) FL.out.reads (ml300 FL.out.few)).mono ?_
  rintro e w14 ⟨⟨A14, c14, rfl, hr14, hnil14, hc14⟩, hb14⟩
  have hBz := HB.out.size
  have HB2 := Lib.hid (HB.out.trans (hb14.mono hBz))
  clear HB hBz
  have HB := HB2
  clear HB2
  have HG2 := Lib.hid (HG.out.next hb14)
  clear HG
  have HG := HG2
  clear HG2
  have FG2 := Lib.hid (FG.out.next hb14)
  clear FG
  have FG := FG2
  clear FG2
  have FL2 := Lib.hid (FL.out.next hb14)
  clear FL
  have FL := FL2
  clear FL2
  have F52 := Lib.hid (F5.out.next hb14)
  clear F5
  have F5 := F52
  clear F52
  clear hb14
  have F6 := Lib.hid hr14
  have F6c := Lib.hid hc14
  have F6z := Lib.hid hnil14
  clear hr14 hc14 hnil14
  go_wp2_with fail
  refine (ri_same F5.out F6.out (ml300 (Nat.le_trans (belowL_len _) (by omega))) (ml300 (Nat.le_trans (belowL_len _) (by omega))) (same_self _)).mono ?_
  rintro e w15 ⟨rfl, hb15⟩
  have hBz := HB.out.size
  have HB2 := Lib.hid (HB.out.trans (hb15.mono hBz))
  clear HB hBz
  have HB := HB2
  clear HB2
  have HG2 := Lib.hid (HG.out.next hb15)
  clear HG
  have HG := HG2
  clear HG2
  have FG2 := Lib.hid (FG.out.next hb15)
  clear FG
  have FG := FG2
  clear FG2
  have FL2 := Lib.hid (FL.out.next hb15)
  clear FL
  have FL := FL2
  clear FL2
  have F52 := Lib.hid (F5.out.next hb15)
  clear F5
  have F5 := F52
  clear F52
  have F62 := Lib.hid (F6.out.next hb15)
  clear F6
  have F6 := F62
  clear F62
  clear hb15
  clear F5
  clear F6
  clear F5c F5z F6c F6z
  go_wp2_with fail
  refine (H.works _ _ _ _ _ _ _ _ _ FG.out FL.out HG.out).mono ?_
  rintro e w16 ⟨⟨A16, c16, rfl, hr16, hnil16, hc16⟩, hb16⟩
  have hBz := HB.out.size
  have HB2 := Lib.hid (HB.out.trans (hb16.mono hBz))
  clear HB hBz
  have HB := HB2
  clear HB2
  have HG2 := Lib.hid (HG.out.next hb16)
  clear HG
  have HG := HG2
  clear HG2
  have FG2 := Lib.hid (FG.out.next hb16)
  clear FG
  have FG := FG2
  clear FG2
  have FL2 := Lib.hid (FL.out.next hb16)
  clear FL
  have FL := FL2
  clear FL2
  clear hb16
  have F5 := Lib.hid hr16
  have F5c := Lib.hid hc16
  have F5z := Lib.hid hnil16
  clear hr16 hc16 hnil16
  go_wp2_with fail
  refine (refBelowH_any _ _ _ _ _ _ _ _ 1 _ FG.out.reads (ml300 FG.out.few) FL.out.reads (ml300 FL.out.few)).mono ?_
  rintro e w17 ⟨⟨A17, c17, rfl, hr17, hnil17, hc17⟩, hb17⟩
  have hBz := HB.out.size
  have HB2 := Lib.hid (HB.out.trans (hb17.mono hBz))
  clear HB hBz
  have HB := HB2
  clear HB2
  have HG2 := Lib.hid (HG.out.next hb17)
  clear HG
  have HG := HG2
  clear HG2
  have FG2 := Lib.hid (FG.out.next hb17)
  clear FG
  have FG := FG2
  clear FG2
  have FL2 := Lib.hid (FL.out.next hb17)
  clear FL
  have FL := FL2
  clear FL2
  have F52 := Lib.hid (F5.out.next hb17)
  clear F5
  have F5 := F52
  clear F52
  clear hb17
  have F6 := Lib.hid hr17
  have F6c := Lib.hid hc17
  have F6z := Lib.hid hnil17
  clear hr17 hc17 hnil17
  go_wp2_with fail
  refine (ri_same F5.out F6.out (ml300 (Nat.le_trans (belowL_len _) (by omega))) (ml300 (Nat.le_trans (belowL_len _) (by omega))) (same_self _)).mono ?_
  rintro e w18 ⟨rfl, hb18⟩
  have hBz := HB.out.size
  have HB2 := Lib.hid (HB.out.trans (hb18.mono hBz))
  clear HB hBz
  have HB := HB2
  clear HB2
  have HG2 := Lib.hid (HG.out.next hb18)
  clear HG
  have HG := HG2
  clear HG2
  have FG2 := Lib.hid (FG.out.next hb18)
  clear FG
  have FG := FG2
  clear FG2
  have FL2 := Lib.hid (FL.out.next hb18)
  clear FL
  have FL := FL2
  clear FL2
  have F52 := Lib.hid (F5.out.next hb18)
  clear F5
  have F5 := F52
  clear F52
  have F62 := Lib.hid (F6.out.next hb18)
  clear F6
  have F6 := F62
  clear F62
  clear hb18
  clear F5
  clear F6
  clear F5c F5z F6c F6z
  go_wp2
  go_ret
  exact ⟨rfl, HB.out⟩

theorem healthRight_walk (H : HealthOk) (A : Option Addr) (n c : Nat) (A2 : Option Addr) (n2 c2 : Nat) (g : Gr) (h : List Int) (a how : Int) (w : World) (hr : RG w w.heap.size A n g) (hnil : A = none → c = 0) (hnc : n ≤ c) (hn : n ≤ maxLen) (hr2 : RI w w.heap.size A2 n2 h) (hj : ∀ x ∈ h, I64 x) (hnil2 : A2 = none → c2 = 0) (hnc2 : n2 ≤ c2) (hn2 : n2 ≤ maxLen) (ha : I64 a) (hw : I64 how) (hG : Glob w) :
    Calls Try.prog 3 #[.slice A n c, .slice A2 n2 c2, .int .i64 a, .int .i64 how] w fun e w' => e = .returned (.bool true) ∧ Below w.heap.size w w' := by
  by_cases h60 : 60 < n
  · exact healthRight_l0 H A n c A2 n2 c2 a how w h60 hn hG
  by_cases h61 : 60 < n2
  · exact healthRight_l1 H A n c A2 n2 c2 a how w h60 h61 hn2 hG
  have hg : GAsk w A n c g := ⟨hr, hnil, hnc, by omega⟩
  have hl : LAsk w A2 n2 c2 h := ⟨hr2, hnil2, hnc2, by omega, hj⟩
  have hln := setL_len g h a how
  rw [hr2.1] at hln
  obtain ⟨⟨l1, er⟩, hst⟩ : ∃ r, setL g h a how = r := ⟨_, rfl⟩
  rw [hst] at hln
  have hln' : l1.length = n2 := hln
  cases hrg : rightG g with
  | false => exact healthRight_no H A n c A2 n2 c2 g h a how w hg (by omega) hl (by omega) ha hw hG l1 er hst (by omega) hrg
  | true =>
    have hpos := (rightG_is hrg).pos
    have hlen := hr.len
    exact healthRight_yes H A n c A2 n2 c2 g h a how w hg (by omega) hl (by omega) ha hw hG l1 er hst (by omega) hrg _ _ rfl rfl (by rw [new_len hrg, hlen]) (by rw [below_all (new_right hrg) (fun j hj => by rw [new_at hrg hj]; omega), hlen]) (by omega) (new_right hrg)

end Go.Proofs.Ytnlgnpdajblfnaa
