/- The statement GraphRight, as a walk over the contracts: of any list of things, number, list of numbers and tag the call returns true. -/
import Derived.Test.YtokjinihdanhbaaGraphAwake
namespace Go.Proofs.Ytokjinihdanhbaa
open Go.RowKit

set_option maxRecDepth 100000 in
set_option maxHeartbeats 4000000 in
theorem graphRight_far (H : GraphOk) (A : Option Addr) (n c : Nat) (A2 : Option Addr) (n2 c2 : Nat) (a : Int) (s : ByteArray) (w : World) (hn : n ≤ maxLen) (hn2 : n2 ≤ maxLen) (hG : Glob w) (hf : 300 < n ∨ 300 < n2) :
    Calls Try.prog 3 #[.slice A n c, .int .i64 a, .slice A2 n2 c2, .string s] w fun e w' => e = .returned (.bool true) ∧ Below w.heap.size w w' := by
  unfold maxLen at hn hn2
  have HG := Lib.hid hG
  by_cases h3 : 300 < n
  · clear hf hG
    go_enter Try.func3, Try.ntmps3
    go_wp2_with fail
    refine (graphAwake_any H _ HG.out).mono ?_
    rintro e w1 ⟨rfl, hb1⟩
    have HB1 := Lib.hid hb1
    clear hb1
    go_wp2
    go_ret
    exact ⟨rfl, HB1.out⟩
  · have h4 : 300 < n2 := by omega
    have h3d : decide (300 < (n : Int)) = false := by simp; omega
    clear hf hG
    go_enter Try.func3, Try.ntmps3
    go_wp2_with fail
    refine (graphAwake_any H _ HG.out).mono ?_
    rintro e w1 ⟨rfl, hb1⟩
    have HB1 := Lib.hid hb1
    clear hb1
    go_wp2
    go_ret
    exact ⟨rfl, HB1.out⟩
set_option maxRecDepth 100000 in
set_option maxHeartbeats 4000000 in
theorem graphRight_near (H : GraphOk) (A : Option Addr) (n c : Nat) (A2 : Option Addr) (n2 c2 : Nat) (g : Gr) (l : List Int) (a : Int) (s : ByteArray) (w : World) (hg : GAsk w A n c g) (hl : LAsk w A2 n2 c2 l) (ha : I64 a) (hs : s.size ≤ maxLen) (hG : Glob w) :
    Calls Try.prog 3 #[.slice A n c, .int .i64 a, .slice A2 n2 c2, .string s] w fun e w' => e = .returned (.bool true) ∧ Below w.heap.size w w' := by
  have hn300 := hg.few
  have hl300 := hl.few
  have FG := Lib.hid hg
  have FL := Lib.hid hl
  have HA := Lib.hid ha
  have HS := Lib.hid hs
  have HG := Lib.hid hG
  have HB := Lib.hid (Below.refl w.heap.size w)
  obtain ⟨rt, hrt⟩ : ∃ r, rightG g = r := ⟨_, rfl⟩
  obtain ⟨nd, hnd⟩ : ∃ r, nodeG g a = r := ⟨_, rfl⟩
  obtain ⟨tg, htg⟩ : ∃ r, tagB s = r := ⟨_, rfl⟩
  obtain ⟨a0, a1, a2, a3, a4, hk⟩ := kVal_form g l
  have HRT := Lib.hid hrt
  have HND := Lib.hid hnd
  have HT := Lib.hid htg
  have HK := Lib.hid hk
  clear hg hl ha hs hG hrt hnd htg hk
  go_enter Try.func3, Try.ntmps3
  go_wp2_with fail
  refine (graphAwake_any H _ HG.out).mono ?_
  rintro e w1 ⟨rfl, hb1⟩
  have hBz := HB.out.size
  have HB2 := Lib.hid (HB.out.trans (hb1.mono hBz))
  clear HB hBz
  have HB := HB2
  clear HB2
  have HG2 := Lib.hid (HG.out.next hb1)
  clear HG
  have HG := HG2
  clear HG2
  have FG2 := Lib.hid (FG.out.next hb1)
  clear FG
  have FG := FG2
  clear FG2
  have FL2 := Lib.hid (FL.out.next hb1)
  clear FL
  have FL := FL2
  clear FL2
  clear hb1
  go_wp2_with fail
  refine (calls_bool (H.right _ _ _ _ _ FG.out HG.out) HRT.out).mono ?_
  rintro e w2 ⟨rfl, hb2⟩
  have hBz := HB.out.size
  have HB2 := Lib.hid (HB.out.trans (hb2.mono hBz))
  clear HB hBz
  have HB := HB2
  clear HB2
  have HG2 := Lib.hid (HG.out.next hb2)
  clear HG
  have HG := HG2
  clear HG2
  have FG2 := Lib.hid (FG.out.next hb2)
  clear FG
  have FG := FG2
  clear FG2
  have FL2 := Lib.hid (FL.out.next hb2)
  clear FL
  have FL := FL2
  clear FL2
  clear hb2
  go_wp2_with fail
  refine (calls_bool (refRightG_any _ _ _ _ _ FG.out.reads (ml300 FG.out.few)) HRT.out).mono ?_
  rintro e w3 ⟨rfl, hb3⟩
  have hBz := HB.out.size
  have HB2 := Lib.hid (HB.out.trans (hb3.mono hBz))
  clear HB hBz
  have HB := HB2
  clear HB2
  have HG2 := Lib.hid (HG.out.next hb3)
  clear HG
  have HG := HG2
  clear HG2
  have FG2 := Lib.hid (FG.out.next hb3)
  clear FG
  have FG := FG2
  clear FG2
  have FL2 := Lib.hid (FL.out.next hb3)
  clear FL
  have FL := FL2
  clear FL2
  clear hb3
  go_wp2_with fail
  refine (H.under _ _ _ _ a _ FG.out HA.out HG.out).mono ?_
  rintro e w4 ⟨⟨A4, c4, rfl, hr4, hnil4, hc4⟩, hb4⟩
  have hBz := HB.out.size
  have HB2 := Lib.hid (HB.out.trans (hb4.mono hBz))
  clear HB hBz
  have HB := HB2
  clear HB2
  have HG2 := Lib.hid (HG.out.next hb4)
  clear HG
  have HG := HG2
  clear HG2
  have FG2 := Lib.hid (FG.out.next hb4)
  clear FG
  have FG := FG2
  clear FG2
  have FL2 := Lib.hid (FL.out.next hb4)
  clear FL
  have FL := FL2
  clear FL2
  clear hb4
  have F1 := Lib.hid hr4
  have F1c := Lib.hid hc4
  have F1z := Lib.hid hnil4
  clear hr4 hc4 hnil4
  go_wp2_with fail
  refine (refUnderG_any _ _ _ _ a _ FG.out.reads (ml300 FG.out.few)).mono ?_
  rintro e w5 ⟨⟨A5, c5, rfl, hr5, hnil5, hc5⟩, hb5⟩
  have hBz := HB.out.size
  have HB2 := Lib.hid (HB.out.trans (hb5.mono hBz))
  clear HB hBz
  have HB := HB2
  clear HB2
  have HG2 := Lib.hid (HG.out.next hb5)
  clear HG
  have HG := HG2
  clear HG2
  have FG2 := Lib.hid (FG.out.next hb5)
  clear FG
  have FG := FG2
  clear FG2
  have FL2 := Lib.hid (FL.out.next hb5)
  clear FL
  have FL := FL2
  clear FL2
  have F12 := Lib.hid (F1.out.next hb5)
  clear F1
  have F1 := F12
  clear F12
  clear hb5
  have F2 := Lib.hid hr5
  have F2c := Lib.hid hc5
  have F2z := Lib.hid hnil5
  clear hr5 hc5 hnil5
  go_wp2_with fail
  refine (ri_same F1.out F2.out (ml300 (Nat.le_trans (underL_len _) (by omega))) (ml300 (Nat.le_trans (underL_len _) (by omega))) (same_self _)).mono ?_
  rintro e w6 ⟨rfl, hb6⟩
  have hBz := HB.out.size
  have HB2 := Lib.hid (HB.out.trans (hb6.mono hBz))
  clear HB hBz
  have HB := HB2
  clear HB2
  have HG2 := Lib.hid (HG.out.next hb6)
  clear HG
  have HG := HG2
  clear HG2
  have FG2 := Lib.hid (FG.out.next hb6)
  clear FG
  have FG := FG2
  clear FG2
  have FL2 := Lib.hid (FL.out.next hb6)
  clear FL
  have FL := FL2
  clear FL2
  have F12 := Lib.hid (F1.out.next hb6)
  clear F1
  have F1 := F12
  clear F12
  have F22 := Lib.hid (F2.out.next hb6)
  clear F2
  have F2 := F22
  clear F22
  clear hb6
  clear F1
  clear F2
  clear F1c F1z F2c F2z
  go_wp2_with fail
  refine (H.above _ _ _ _ a _ FG.out HA.out HG.out).mono ?_
  rintro e w7 ⟨⟨A7, c7, rfl, hr7, hnil7, hc7⟩, hb7⟩
  have hBz := HB.out.size
  have HB2 := Lib.hid (HB.out.trans (hb7.mono hBz))
  clear HB hBz
  have HB := HB2
  clear HB2
  have HG2 := Lib.hid (HG.out.next hb7)
  clear HG
  have HG := HG2
  clear HG2
  have FG2 := Lib.hid (FG.out.next hb7)
  clear FG
  have FG := FG2
  clear FG2
  have FL2 := Lib.hid (FL.out.next hb7)
  clear FL
  have FL := FL2
  clear FL2
  clear hb7
  have F3 := Lib.hid hr7
  have F3c := Lib.hid hc7
  have F3z := Lib.hid hnil7
  clear hr7 hc7 hnil7
  go_wp2_with fail
  refine (refAboveG_any _ _ _ _ a _ FG.out.reads (ml300 FG.out.few)).mono ?_
  rintro e w8 ⟨⟨A8, c8, rfl, hr8, hnil8, hc8⟩, hb8⟩
  have hBz := HB.out.size
  have HB2 := Lib.hid (HB.out.trans (hb8.mono hBz))
  clear HB hBz
  have HB := HB2
  clear HB2
  have HG2 := Lib.hid (HG.out.next hb8)
  clear HG
  have HG := HG2
  clear HG2
  have FG2 := Lib.hid (FG.out.next hb8)
  clear FG
  have FG := FG2
  clear FG2
  have FL2 := Lib.hid (FL.out.next hb8)
  clear FL
  have FL := FL2
  clear FL2
  have F32 := Lib.hid (F3.out.next hb8)
  clear F3
  have F3 := F32
  clear F32
  clear hb8
  have F4 := Lib.hid hr8
  have F4c := Lib.hid hc8
  have F4z := Lib.hid hnil8
  clear hr8 hc8 hnil8
  go_wp2_with fail
  refine (ri_same F3.out F4.out (ml300 (Nat.le_trans (aboveL_len _) (by omega))) (ml300 (Nat.le_trans (aboveL_len _) (by omega))) (same_self _)).mono ?_
  rintro e w9 ⟨rfl, hb9⟩
  have hBz := HB.out.size
  have HB2 := Lib.hid (HB.out.trans (hb9.mono hBz))
  clear HB hBz
  have HB := HB2
  clear HB2
  have HG2 := Lib.hid (HG.out.next hb9)
  clear HG
  have HG := HG2
  clear HG2
  have FG2 := Lib.hid (FG.out.next hb9)
  clear FG
  have FG := FG2
  clear FG2
  have FL2 := Lib.hid (FL.out.next hb9)
  clear FL
  have FL := FL2
  clear FL2
  have F32 := Lib.hid (F3.out.next hb9)
  clear F3
  have F3 := F32
  clear F32
  have F42 := Lib.hid (F4.out.next hb9)
  clear F4
  have F4 := F42
  clear F42
  clear hb9
  clear F3
  clear F4
  clear F3c F3z F4c F4z
  go_wp2_with fail
  refine (calls_int (H.node _ _ _ _ a _ FG.out HA.out HG.out) HND.out).mono ?_
  rintro e w10 ⟨rfl, hb10⟩
  have hBz := HB.out.size
  have HB2 := Lib.hid (HB.out.trans (hb10.mono hBz))
  clear HB hBz
  have HB := HB2
  clear HB2
  have HG2 := Lib.hid (HG.out.next hb10)
  clear HG
  have HG := HG2
  clear HG2
  have FG2 := Lib.hid (FG.out.next hb10)
  clear FG
  have FG := FG2
  clear FG2
  have FL2 := Lib.hid (FL.out.next hb10)
  clear FL
  have FL := FL2
  clear FL2
  clear hb10
  go_wp2_with fail
  refine (calls_int (refNodeG_any _ _ _ _ a _ FG.out.reads (ml300 FG.out.few)) HND.out).mono ?_
  rintro e w11 ⟨rfl, hb11⟩
  have hBz := HB.out.size
  have HB2 := Lib.hid (HB.out.trans (hb11.mono hBz))
  clear HB hBz
  have HB := HB2
  clear HB2
  have HG2 := Lib.hid (HG.out.next hb11)
  clear HG
  have HG := HG2
  clear HG2
  have FG2 := Lib.hid (FG.out.next hb11)
  clear FG
  have FG := FG2
  clear FG2
  have FL2 := Lib.hid (FL.out.next hb11)
  clear FL
  have FL := FL2
  clear FL2
  clear hb11
  go_wp2_with fail
  refine (calls_kinds (H.kinds _ _ _ _ _ _ _ _ _ FG.out FL.out HG.out) HK.out).mono ?_
  rintro e w12 ⟨rfl, hb12⟩
  have hBz := HB.out.size
  have HB2 := Lib.hid (HB.out.trans (hb12.mono hBz))
  clear HB hBz
  have HB := HB2
  clear HB2
  have HG2 := Lib.hid (HG.out.next hb12)
  clear HG
  have HG := HG2
  clear HG2
  have FG2 := Lib.hid (FG.out.next hb12)
  clear FG
  have FG := FG2
  clear FG2
  have FL2 := Lib.hid (FL.out.next hb12)
  clear FL
  have FL := FL2
  clear FL2
  clear hb12
  go_wp2_with fail
  refine (calls_kinds (refKindsG_any _ _ _ _ _ _ _ _ _ FG.out.reads (ml300 FG.out.few) FL.out.reads (ml300 FL.out.few)) HK.out).mono ?_
  rintro e w13 ⟨rfl, hb13⟩
  have hBz := HB.out.size
  have HB2 := Lib.hid (HB.out.trans (hb13.mono hBz))
  clear HB hBz
  have HB := HB2
  clear HB2
  have HG2 := Lib.hid (HG.out.next hb13)
  clear HG
  have HG := HG2
  clear HG2
  have FG2 := Lib.hid (FG.out.next hb13)
  clear FG
  have FG := FG2
  clear FG2
  have FL2 := Lib.hid (FL.out.next hb13)
  clear FL
  have FL := FL2
  clear FL2
  clear hb13
  have heq := run_eq5 a0 a1 a2 a3 a4
  go_wp2_with fail
  refine (H.whole _ _ _ _ _ _ _ _ _ FG.out FL.out HG.out).mono ?_
  rintro e w14 ⟨⟨A14, c14, rfl, hr14, hnil14, hc14⟩, hb14⟩
  have hBz := HB.out.size
  have HB2 := Lib.hid (HB.out.trans (hb14.mono hBz))
  clear HB hBz
  have HB := HB2
  clear HB2
  have HG2 := Lib.hid (HG.out.next hb14)
  clear HG
  have HG := HG2
  clear HG2
  have FG2 := Lib.hid (FG.out.next hb14)
  clear FG
  have FG := FG2
  clear FG2
  have FL2 := Lib.hid (FL.out.next hb14)
  clear FL
  have FL := FL2
  clear FL2
  clear hb14
  have F5 := Lib.hid hr14
  have F5c := Lib.hid hc14
  have F5z := Lib.hid hnil14
  clear hr14 hc14 hnil14
  go_wp2_with fail
  refine (refWholeG_any _ _ _ _ _ _ _ _ _ FG.out.reads (ml300 FG.out.few) FL.out.reads (ml300 FL.out.few)).mono ?_
  rintro e w15 ⟨⟨A15, c15, rfl, hr15, hnil15, hc15⟩, hb15⟩
  have hBz := HB.out.size
  have HB2 := Lib.hid (HB.out.trans (hb15.mono hBz))
  clear HB hBz
  have HB := HB2
  clear HB2
  have HG2 := Lib.hid (HG.out.next hb15)
  clear HG
  have HG := HG2
  clear HG2
  have FG2 := Lib.hid (FG.out.next hb15)
  clear FG
  have FG := FG2
  clear FG2
  have FL2 := Lib.hid (FL.out.next hb15)
  clear FL
  have FL := FL2
  clear FL2
  have F52 := Lib.hid (F5.out.next hb15)
  clear F5
  have F5 := F52
  clear F52
  clear hb15
  have F6 := Lib.hid hr15
  have F6c := Lib.hid hc15
  have F6z := Lib.hid hnil15
  clear hr15 hc15 hnil15
  go_wp2_with fail
  refine (ri_same F5.out F6.out (ml300 (Nat.le_trans (wholeL_len _) (by omega))) (ml300 (Nat.le_trans (wholeL_len _) (by omega))) (same_self _)).mono ?_
  rintro e w16 ⟨rfl, hb16⟩
  have hBz := HB.out.size
  have HB2 := Lib.hid (HB.out.trans (hb16.mono hBz))
  clear HB hBz
  have HB := HB2
  clear HB2
  have HG2 := Lib.hid (HG.out.next hb16)
  clear HG
  have HG := HG2
  clear HG2
  have FG2 := Lib.hid (FG.out.next hb16)
  clear FG
  have FG := FG2
  clear FG2
  have FL2 := Lib.hid (FL.out.next hb16)
  clear FL
  have FL := FL2
  clear FL2
  have F52 := Lib.hid (F5.out.next hb16)
  clear F5
  have F5 := F52
  clear F52
  have F62 := Lib.hid (F6.out.next hb16)
  clear F6
  have F6 := F62
  clear F62
  clear hb16
  clear F5
  clear F6
  clear F5c F5z F6c F6z
  go_wp2_with fail
  refine (calls_bool (H.tag s _ HS.out HG.out) HT.out).mono ?_
  rintro e w17 ⟨rfl, hb17⟩
  have hBz := HB.out.size
  have HB2 := Lib.hid (HB.out.trans (hb17.mono hBz))
  clear HB hBz
  have HB := HB2
  clear HB2
  have HG2 := Lib.hid (HG.out.next hb17)
  clear HG
  have HG := HG2
  clear HG2
  have FG2 := Lib.hid (FG.out.next hb17)
  clear FG
  have FG := FG2
  clear FG2
  have FL2 := Lib.hid (FL.out.next hb17)
  clear FL
  have FL := FL2
  clear FL2
  clear hb17
  go_wp2_with fail
  refine (calls_bool (bel_same (refTag_any s _ HS.out)) HT.out).mono ?_
  rintro e w18 ⟨rfl, hb18⟩
  have hBz := HB.out.size
  have HB2 := Lib.hid (HB.out.trans (hb18.mono hBz))
  clear HB hBz
  have HB := HB2
  clear HB2
  have HG2 := Lib.hid (HG.out.next hb18)
  clear HG
  have HG := HG2
  clear HG2
  have FG2 := Lib.hid (FG.out.next hb18)
  clear FG
  have FG := FG2
  clear FG2
  have FL2 := Lib.hid (FL.out.next hb18)
  clear FL
  have FL := FL2
  clear FL2
  clear hb18
  go_wp2
  go_ret
  exact ⟨rfl, HB.out⟩

theorem graphRight_walk (H : GraphOk) (A : Option Addr) (n c : Nat) (A2 : Option Addr) (n2 c2 : Nat) (g : Gr) (l : List Int) (a : Int) (s : ByteArray) (w : World) (hr : RG w w.heap.size A n g) (hnil : A = none → c = 0) (hnc : n ≤ c) (hn : n ≤ maxLen) (hr2 : RI w w.heap.size A2 n2 l) (hl : ∀ x ∈ l, I64 x) (hnil2 : A2 = none → c2 = 0) (hnc2 : n2 ≤ c2) (hn2 : n2 ≤ maxLen) (ha : I64 a) (hs : s.size ≤ maxLen) (hG : Glob w) :
    Calls Try.prog 3 #[.slice A n c, .int .i64 a, .slice A2 n2 c2, .string s] w fun e w' => e = .returned (.bool true) ∧ Below w.heap.size w w' := by
  by_cases h : 300 < n ∨ 300 < n2
  · exact graphRight_far H A n c A2 n2 c2 a s w hn hn2 hG h
  · exact graphRight_near H A n c A2 n2 c2 g l a s w ⟨hr, hnil, hnc, by omega⟩ ⟨hr2, hnil2, hnc2, by omega, hl⟩ ha hs hG

end Go.Proofs.Ytokjinihdanhbaa
