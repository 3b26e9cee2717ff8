/- The statement SetRight, as a walk: of any two lists of int the call returns true and keeps all that was there. -/
import Derived.Test.YtgifhbjcelkjkaaDoorSetKit
namespace Go.Proofs.YtgifhbjcelkjkaaDoor
open Go.RowKit Go.Shelf

theorem tz_lt {w : World} (h : GlobOk w) : 0 < w.heap.size := by have := h.size; omega
theorem own_empty (w : World) (e : TypeId) : (w.alloc (.cells #[] e)).ownsRow w.heap.size e 1 (.slice (some ⟨w.heap.size, 0, none⟩) 0 0) 0 [] :=
  World.ownsRow_made w #[] 0 (Nat.le_refl _) (Nat.zero_le _) rfl
theorem part_val (a b : List Int) (m : Nat) (hm : (meetL a b).length = m) : partB a b = (rightB a && rightB b && decide (m = a.length)) := by rw [part_length, hm]

set_option maxRecDepth 100000 in
set_option maxHeartbeats 8000000 in
theorem right_true_true (A A' : Option Addr) (n c n' c' : Nat) (xs ys : List Int) (v : Int) (hv bp ba : Bool) (w : World) (hfa : RI w w.heap.size A n xs) (hfb : RI w w.heap.size A' n' ys) (hnil : A = none → c = 0) (hnil' : A' = none → c' = 0) (hle : n ≤ 300) (hle' : n' ≤ 300) (hg : GlobOk w)
    (hrx : rightB xs = true) (hry : rightB ys = true) (hhv : hasB xs v = hv) (hpv : partB xs ys = bp) (hav : apartB xs ys = ba)
    (hq1 : (((whichL 1 xs ys).length : Int) == (n : Int)) = bp) (hq3 : (((whichL 1 xs ys).length : Int) == 0) = ba) :
    Calls Tryd.prog 3 #[.slice A n c, .slice A' n' c', .int .i64 v] w fun e w' => e = .returned (.bool true) ∧ Below w.heap.size w w' := by
  have HRX := Lib.hid hrx
  have HRY := Lib.hid hry
  have HHV := Lib.hid hhv
  have HPV := Lib.hid hpv
  have HAV := Lib.hid hav
  have hnm : Hid (n ≤ maxLen) := Lib.hid (by unfold maxLen; omega)
  have hnm' : Hid (n' ≤ maxLen) := Lib.hid (by unfold maxLen; omega)
  have FA := Lib.hid hfa
  have FB := Lib.hid hfb
  have HG := Lib.hid hg
  have HB := Lib.hid (Below.refl w.heap.size w)
  clear hrx hry hhv hpv hav hfa hfb hg
  obtain ⟨i0, hi, hz0, hz1, hz2⟩ := info_parts int_info
  go_enter Tryd.func3, Tryd.ntmps3
  go_wp2_with fail
  refine (awake_any _ HG.out).mono ?_
  rintro e w1 ⟨rfl, hb1⟩
  have hBz := HB.out.size
  have HB2 := Lib.hid (HB.out.trans (hb1.mono hBz))
  clear HB hBz
  have HB := HB2
  clear HB2
  have HG2 := Lib.hid (HG.out.below hb1)
  clear HG
  have HG := HG2
  clear HG2
  have FA2 := Lib.hid (FA.out.next hb1)
  clear FA
  have FA := FA2
  clear FA2
  have FB2 := Lib.hid (FB.out.next hb1)
  clear FB
  have FB := FB2
  clear FB2
  clear hb1
  go_wp2_with (at_builtin; refine wpList_append_RI _ rfl (.tmp 22) (.tmp 23) 22 rfl w1.heap.size 3 i0 (.int .i64 0) 8 Tryd.underlying22 hi hz0 hz1 hz2 rfl (.slice (some ⟨w1.heap.size, 0, none⟩) 0 0) 0 [] rfl (own_empty w1 _) w1.heap.size A n c _ rfl (FA.out.below (Below.alloc (Below.refl _ _) (Nat.le_refl _) _)) hnil (by unfold maxLen; omega) (by omega) (by simp) ?_; intro v2 w2 hown2 hg2; refine Hid.out ?_)
  refine Lib.hid ?_
  have hb2 : Below w1.heap.size w1 w2 := (Below.alloc (Below.refl _ _) (Nat.le_refl _) _).grown hg2 (by simp) (fun j hj => (Nat.le_of_eq (by simpa [Value.ownBlock] using hj)))
  rw [List.nil_append, Nat.zero_add] at hown2
  obtain ⟨A2, c2, rfl⟩ := own_form hown2
  have hBz := HB.out.size
  have HB2 := Lib.hid (HB.out.trans (hb2.mono hBz))
  clear HB hBz
  have HB := HB2
  clear HB2
  have HG2 := Lib.hid (HG.out.below hb2)
  clear HG
  have HG := HG2
  clear HG2
  have FA2 := Lib.hid (FA.out.next hb2)
  clear FA
  have FA := FA2
  clear FA2
  have FB2 := Lib.hid (FB.out.next hb2)
  clear FB
  have FB := FB2
  clear FB2
  clear hb2
  have FX := Lib.hid (RI.of_own hown2)
  clear hown2 hg2
  go_wp2_with (at_builtin; refine wpList_append_RI _ rfl (.tmp 25) (.tmp 26) 22 rfl w2.heap.size 3 i0 (.int .i64 0) 8 Tryd.underlying22 hi hz0 hz1 hz2 rfl (.slice (some ⟨w2.heap.size, 0, none⟩) 0 0) 0 [] rfl (own_empty w2 _) w2.heap.size A' n' c' _ rfl (FB.out.below (Below.alloc (Below.refl _ _) (Nat.le_refl _) _)) hnil' (by unfold maxLen; omega) (by omega) (by simp) ?_; intro v3 w3 hown3 hg3; refine Hid.out ?_)
  refine Lib.hid ?_
  have hb3 : Below w2.heap.size w2 w3 := (Below.alloc (Below.refl _ _) (Nat.le_refl _) _).grown hg3 (by simp) (fun j hj => (Nat.le_of_eq (by simpa [Value.ownBlock] using hj)))
  rw [List.nil_append, Nat.zero_add] at hown3
  obtain ⟨A3, c3, rfl⟩ := own_form hown3
  have hBz := HB.out.size
  have HB2 := Lib.hid (HB.out.trans (hb3.mono hBz))
  clear HB hBz
  have HB := HB2
  clear HB2
  have HG2 := Lib.hid (HG.out.below hb3)
  clear HG
  have HG := HG2
  clear HG2
  have FA2 := Lib.hid (FA.out.next hb3)
  clear FA
  have FA := FA2
  clear FA2
  have FB2 := Lib.hid (FB.out.next hb3)
  clear FB
  have FB := FB2
  clear FB2
  have FX2 := Lib.hid (FX.out.next hb3)
  clear FX
  have FX := FX2
  clear FX2
  clear hb3
  have FY := Lib.hid (RI.of_own hown3)
  clear hown3 hg3
  go_wp2_with fail
  refine (which_any 1 1 (.inr (.inl ⟨rfl, rfl⟩)) _ _ _ _ _ _ xs ys _ FA.out FB.out hnm.out hnm'.out).mono ?_
  rintro e w4 ⟨⟨A4, c4, hc4, rfl, hr4⟩, hb4⟩
  have hBz := HB.out.size
  have HB2 := Lib.hid (HB.out.trans (hb4.mono hBz))
  clear HB hBz
  have HB := HB2
  clear HB2
  have HG2 := Lib.hid (HG.out.below hb4)
  clear HG
  have HG := HG2
  clear HG2
  have FA2 := Lib.hid (FA.out.next hb4)
  clear FA
  have FA := FA2
  clear FA2
  have FB2 := Lib.hid (FB.out.next hb4)
  clear FB
  have FB := FB2
  clear FB2
  have FX2 := Lib.hid (FX.out.next hb4)
  clear FX
  have FX := FX2
  clear FX2
  have FY2 := Lib.hid (FY.out.next hb4)
  clear FY
  have FY := FY2
  clear FY2
  clear hb4
  have FM := Lib.hid hr4
  have FMc := Lib.hid hc4
  clear hr4 hc4
  go_wp2_with fail
  refine (k_refRight FA.out hnm.out HRX.out).mono ?_
  rintro e w5 ⟨rfl, hb5⟩
  have hBz := HB.out.size
  have HB2 := Lib.hid (HB.out.trans (hb5.mono hBz))
  clear HB hBz
  have HB := HB2
  clear HB2
  have HG2 := Lib.hid (HG.out.below hb5)
  clear HG
  have HG := HG2
  clear HG2
  have FA2 := Lib.hid (FA.out.next hb5)
  clear FA
  have FA := FA2
  clear FA2
  have FB2 := Lib.hid (FB.out.next hb5)
  clear FB
  have FB := FB2
  clear FB2
  have FX2 := Lib.hid (FX.out.next hb5)
  clear FX
  have FX := FX2
  clear FX2
  have FY2 := Lib.hid (FY.out.next hb5)
  clear FY
  have FY := FY2
  clear FY2
  have FM2 := Lib.hid (FM.out.next hb5)
  clear FM
  have FM := FM2
  clear FM2
  clear hb5
  go_wp2_with fail
  refine (k_refRight FB.out hnm'.out HRY.out).mono ?_
  rintro e w6 ⟨rfl, hb6⟩
  have hBz := HB.out.size
  have HB2 := Lib.hid (HB.out.trans (hb6.mono hBz))
  clear HB hBz
  have HB := HB2
  clear HB2
  have HG2 := Lib.hid (HG.out.below hb6)
  clear HG
  have HG := HG2
  clear HG2
  have FA2 := Lib.hid (FA.out.next hb6)
  clear FA
  have FA := FA2
  clear FA2
  have FB2 := Lib.hid (FB.out.next hb6)
  clear FB
  have FB := FB2
  clear FB2
  have FX2 := Lib.hid (FX.out.next hb6)
  clear FX
  have FX := FX2
  clear FX2
  have FY2 := Lib.hid (FY.out.next hb6)
  clear FY
  have FY := FY2
  clear FY2
  have FM2 := Lib.hid (FM.out.next hb6)
  clear FM
  have FM := FM2
  clear FM2
  clear hb6
  go_wp2_with fail
  refine (k_right FX.out hnm.out HRX.out).mono ?_
  rintro e w7 ⟨rfl, hb7⟩
  have hBz := HB.out.size
  have HB2 := Lib.hid (HB.out.trans (hb7.mono hBz))
  clear HB hBz
  have HB := HB2
  clear HB2
  have HG2 := Lib.hid (HG.out.below hb7)
  clear HG
  have HG := HG2
  clear HG2
  have FA2 := Lib.hid (FA.out.next hb7)
  clear FA
  have FA := FA2
  clear FA2
  have FB2 := Lib.hid (FB.out.next hb7)
  clear FB
  have FB := FB2
  clear FB2
  have FX2 := Lib.hid (FX.out.next hb7)
  clear FX
  have FX := FX2
  clear FX2
  have FY2 := Lib.hid (FY.out.next hb7)
  clear FY
  have FY := FY2
  clear FY2
  have FM2 := Lib.hid (FM.out.next hb7)
  clear FM
  have FM := FM2
  clear FM2
  clear hb7
  go_wp2_with fail
  refine (k_refRight FA.out hnm.out HRX.out).mono ?_
  rintro e w8 ⟨rfl, hb8⟩
  have hBz := HB.out.size
  have HB2 := Lib.hid (HB.out.trans (hb8.mono hBz))
  clear HB hBz
  have HB := HB2
  clear HB2
  have HG2 := Lib.hid (HG.out.below hb8)
  clear HG
  have HG := HG2
  clear HG2
  have FA2 := Lib.hid (FA.out.next hb8)
  clear FA
  have FA := FA2
  clear FA2
  have FB2 := Lib.hid (FB.out.next hb8)
  clear FB
  have FB := FB2
  clear FB2
  have FX2 := Lib.hid (FX.out.next hb8)
  clear FX
  have FX := FX2
  clear FX2
  have FY2 := Lib.hid (FY.out.next hb8)
  clear FY
  have FY := FY2
  clear FY2
  have FM2 := Lib.hid (FM.out.next hb8)
  clear FM
  have FM := FM2
  clear FM2
  clear hb8
  go_wp2_with fail
  refine (join_ops _ _ _ _ _ _ xs ys _ FX.out FY.out hnm.out hnm'.out HG.out.tz (tz_lt HG.out)).mono ?_
  rintro e w9 ⟨⟨A9, c9, hc9, rfl, hr9⟩, hb9⟩
  have hBz := HB.out.size
  have HB2 := Lib.hid (HB.out.trans (hb9.mono hBz))
  clear HB hBz
  have HB := HB2
  clear HB2
  have HG2 := Lib.hid (HG.out.below hb9)
  clear HG
  have HG := HG2
  clear HG2
  have FA2 := Lib.hid (FA.out.next hb9)
  clear FA
  have FA := FA2
  clear FA2
  have FB2 := Lib.hid (FB.out.next hb9)
  clear FB
  have FB := FB2
  clear FB2
  have FX2 := Lib.hid (FX.out.next hb9)
  clear FX
  have FX := FX2
  clear FX2
  have FY2 := Lib.hid (FY.out.next hb9)
  clear FY
  have FY := FY2
  clear FY2
  have FM2 := Lib.hid (FM.out.next hb9)
  clear FM
  have FM := FM2
  clear FM2
  clear hb9
  have FJ := Lib.hid hr9
  have FJc := Lib.hid hc9
  clear hr9 hc9
  go_wp2_with fail
  refine (which_any 0 0 (.inl ⟨rfl, rfl⟩) _ _ _ _ _ _ xs ys _ FA.out FB.out hnm.out hnm'.out).mono ?_
  rintro e w10 ⟨⟨A10, c10, hc10, rfl, hr10⟩, hb10⟩
  have hBz := HB.out.size
  have HB2 := Lib.hid (HB.out.trans (hb10.mono hBz))
  clear HB hBz
  have HB := HB2
  clear HB2
  have HG2 := Lib.hid (HG.out.below hb10)
  clear HG
  have HG := HG2
  clear HG2
  have FA2 := Lib.hid (FA.out.next hb10)
  clear FA
  have FA := FA2
  clear FA2
  have FB2 := Lib.hid (FB.out.next hb10)
  clear FB
  have FB := FB2
  clear FB2
  have FX2 := Lib.hid (FX.out.next hb10)
  clear FX
  have FX := FX2
  clear FX2
  have FY2 := Lib.hid (FY.out.next hb10)
  clear FY
  have FY := FY2
  clear FY2
  have FM2 := Lib.hid (FM.out.next hb10)
  clear FM
  have FM := FM2
  clear FM2
  have FJ2 := Lib.hid (FJ.out.next hb10)
  clear FJ
  have FJ := FJ2
  clear FJ2
  clear hb10
  have FW := Lib.hid hr10
  have FWc := Lib.hid hc10
  clear hr10 hc10
  go_wp2_with fail
  refine (k_same FJ.out FW.out (ml_join xs ys) (ml_which 0 xs ys) rfl).mono ?_
  rintro e w11 ⟨rfl, hb11⟩
  have hBz := HB.out.size
  have HB2 := Lib.hid (HB.out.trans (hb11.mono hBz))
  clear HB hBz
  have HB := HB2
  clear HB2
  have HG2 := Lib.hid (HG.out.below hb11)
  clear HG
  have HG := HG2
  clear HG2
  have FA2 := Lib.hid (FA.out.next hb11)
  clear FA
  have FA := FA2
  clear FA2
  have FB2 := Lib.hid (FB.out.next hb11)
  clear FB
  have FB := FB2
  clear FB2
  have FX2 := Lib.hid (FX.out.next hb11)
  clear FX
  have FX := FX2
  clear FX2
  have FY2 := Lib.hid (FY.out.next hb11)
  clear FY
  have FY := FY2
  clear FY2
  have FM2 := Lib.hid (FM.out.next hb11)
  clear FM
  have FM := FM2
  clear FM2
  have FJ2 := Lib.hid (FJ.out.next hb11)
  clear FJ
  have FJ := FJ2
  clear FJ2
  have FW2 := Lib.hid (FW.out.next hb11)
  clear FW
  have FW := FW2
  clear FW2
  clear hb11
  clear FJ
  clear FW
  go_wp2_with fail
  refine (meet_ops _ _ _ _ _ _ xs ys _ FX.out FY.out hnm.out hnm'.out HG.out.tz (tz_lt HG.out)).mono ?_
  rintro e w12 ⟨⟨A12, c12, hc12, rfl, hr12⟩, hb12⟩
  have hBz := HB.out.size
  have HB2 := Lib.hid (HB.out.trans (hb12.mono hBz))
  clear HB hBz
  have HB := HB2
  clear HB2
  have HG2 := Lib.hid (HG.out.below hb12)
  clear HG
  have HG := HG2
  clear HG2
  have FA2 := Lib.hid (FA.out.next hb12)
  clear FA
  have FA := FA2
  clear FA2
  have FB2 := Lib.hid (FB.out.next hb12)
  clear FB
  have FB := FB2
  clear FB2
  have FX2 := Lib.hid (FX.out.next hb12)
  clear FX
  have FX := FX2
  clear FX2
  have FY2 := Lib.hid (FY.out.next hb12)
  clear FY
  have FY := FY2
  clear FY2
  have FM2 := Lib.hid (FM.out.next hb12)
  clear FM
  have FM := FM2
  clear FM2
  clear hb12
  have FJ := Lib.hid hr12
  have FJc := Lib.hid hc12
  clear hr12 hc12
  go_wp2_with fail
  refine (k_same FJ.out FM.out (ml_meet xs ys) (ml_which 1 xs ys) rfl).mono ?_
  rintro e w13 ⟨rfl, hb13⟩
  have hBz := HB.out.size
  have HB2 := Lib.hid (HB.out.trans (hb13.mono hBz))
  clear HB hBz
  have HB := HB2
  clear HB2
  have HG2 := Lib.hid (HG.out.below hb13)
  clear HG
  have HG := HG2
  clear HG2
  have FA2 := Lib.hid (FA.out.next hb13)
  clear FA
  have FA := FA2
  clear FA2
  have FB2 := Lib.hid (FB.out.next hb13)
  clear FB
  have FB := FB2
  clear FB2
  have FX2 := Lib.hid (FX.out.next hb13)
  clear FX
  have FX := FX2
  clear FX2
  have FY2 := Lib.hid (FY.out.next hb13)
  clear FY
  have FY := FY2
  clear FY2
  have FM2 := Lib.hid (FM.out.next hb13)
  clear FM
  have FM := FM2
  clear FM2
  have FJ2 := Lib.hid (FJ.out.next hb13)
  clear FJ
  have FJ := FJ2
  clear FJ2
  clear hb13
  clear FJ
  go_wp2_with fail
  refine (less_ops _ _ _ _ _ _ xs ys _ FX.out FY.out hnm.out hnm'.out HG.out.tz (tz_lt HG.out)).mono ?_
  rintro e w14 ⟨⟨A14, c14, hc14, rfl, hr14⟩, hb14⟩
  have hBz := HB.out.size
  have HB2 := Lib.hid (HB.out.trans (hb14.mono hBz))
  clear HB hBz
  have HB := HB2
  clear HB2
  have HG2 := Lib.hid (HG.out.below hb14)
  clear HG
  have HG := HG2
  clear HG2
  have FA2 := Lib.hid (FA.out.next hb14)
  clear FA
  have FA := FA2
  clear FA2
  have FB2 := Lib.hid (FB.out.next hb14)
  clear FB
  have FB := FB2
  clear FB2
  have FX2 := Lib.hid (FX.out.next hb14)
  clear FX
  have FX := FX2
  clear FX2
  have FY2 := Lib.hid (FY.out.next hb14)
  clear FY
  have FY := FY2
  clear FY2
  have FM2 := Lib.hid (FM.out.next hb14)
  clear FM
  have FM := FM2
  clear FM2
  clear hb14
  have FJ := Lib.hid hr14
  have FJc := Lib.hid hc14
  clear hr14 hc14
  go_wp2_with fail
  refine (which_any 2 2 (.inr (.inr ⟨rfl, rfl⟩)) _ _ _ _ _ _ xs ys _ FA.out FB.out hnm.out hnm'.out).mono ?_
  rintro e w15 ⟨⟨A15, c15, hc15, rfl, hr15⟩, hb15⟩
  have hBz := HB.out.size
  have HB2 := Lib.hid (HB.out.trans (hb15.mono hBz))
  clear HB hBz
  have HB := HB2
  clear HB2
  have HG2 := Lib.hid (HG.out.below hb15)
  clear HG
  have HG := HG2
  clear HG2
  have FA2 := Lib.hid (FA.out.next hb15)
  clear FA
  have FA := FA2
  clear FA2
  have FB2 := Lib.hid (FB.out.next hb15)
  clear FB
  have FB := FB2
  clear FB2
  have FX2 := Lib.hid (FX.out.next hb15)
  clear FX
  have FX := FX2
  clear FX2
  have FY2 := Lib.hid (FY.out.next hb15)
  clear FY
  have FY := FY2
  clear FY2
  have FM2 := Lib.hid (FM.out.next hb15)
  clear FM
  have FM := FM2
  clear FM2
  have FJ2 := Lib.hid (FJ.out.next hb15)
  clear FJ
  have FJ := FJ2
  clear FJ2
  clear hb15
  have FW := Lib.hid hr15
  have FWc := Lib.hid hc15
  clear hr15 hc15
  go_wp2_with fail
  refine (k_same FJ.out FW.out (ml_less xs ys) (ml_which 2 xs ys) rfl).mono ?_
  rintro e w16 ⟨rfl, hb16⟩
  have hBz := HB.out.size
  have HB2 := Lib.hid (HB.out.trans (hb16.mono hBz))
  clear HB hBz
  have HB := HB2
  clear HB2
  have HG2 := Lib.hid (HG.out.below hb16)
  clear HG
  have HG := HG2
  clear HG2
  have FA2 := Lib.hid (FA.out.next hb16)
  clear FA
  have FA := FA2
  clear FA2
  have FB2 := Lib.hid (FB.out.next hb16)
  clear FB
  have FB := FB2
  clear FB2
  have FX2 := Lib.hid (FX.out.next hb16)
  clear FX
  have FX := FX2
  clear FX2
  have FY2 := Lib.hid (FY.out.next hb16)
  clear FY
  have FY := FY2
  clear FY2
  have FM2 := Lib.hid (FM.out.next hb16)
  clear FM
  have FM := FM2
  clear FM2
  have FJ2 := Lib.hid (FJ.out.next hb16)
  clear FJ
  have FJ := FJ2
  clear FJ2
  have FW2 := Lib.hid (FW.out.next hb16)
  clear FW
  have FW := FW2
  clear FW2
  clear hb16
  clear FJ
  clear FW
  go_wp2_with fail
  refine (has_any _ _ _ xs v _ FX.out hnm.out).mono ?_
  rintro e w17 ⟨rfl, hb17⟩
  have hBz := HB.out.size
  have HB2 := Lib.hid (HB.out.trans (hb17.mono hBz))
  clear HB hBz
  have HB := HB2
  clear HB2
  have HG2 := Lib.hid (HG.out.below hb17)
  clear HG
  have HG := HG2
  clear HG2
  have FA2 := Lib.hid (FA.out.next hb17)
  clear FA
  have FA := FA2
  clear FA2
  have FB2 := Lib.hid (FB.out.next hb17)
  clear FB
  have FB := FB2
  clear FB2
  have FX2 := Lib.hid (FX.out.next hb17)
  clear FX
  have FX := FX2
  clear FX2
  have FY2 := Lib.hid (FY.out.next hb17)
  clear FY
  have FY := FY2
  clear FY2
  have FM2 := Lib.hid (FM.out.next hb17)
  clear FM
  have FM := FM2
  clear FM2
  clear hb17
  rw [HHV.out]
  go_wp2_with fail
  refine (k_refHas FA.out hnm.out).mono ?_
  rintro e w18 ⟨rfl, hb18⟩
  have hBz := HB.out.size
  have HB2 := Lib.hid (HB.out.trans (hb18.mono hBz))
  clear HB hBz
  have HB := HB2
  clear HB2
  have HG2 := Lib.hid (HG.out.below hb18)
  clear HG
  have HG := HG2
  clear HG2
  have FA2 := Lib.hid (FA.out.next hb18)
  clear FA
  have FA := FA2
  clear FA2
  have FB2 := Lib.hid (FB.out.next hb18)
  clear FB
  have FB := FB2
  clear FB2
  have FX2 := Lib.hid (FX.out.next hb18)
  clear FX
  have FX := FX2
  clear FX2
  have FY2 := Lib.hid (FY.out.next hb18)
  clear FY
  have FY := FY2
  clear FY2
  have FM2 := Lib.hid (FM.out.next hb18)
  clear FM
  have FM := FM2
  clear FM2
  clear hb18
  rw [HHV.out]
  go_wp2_with fail
  refine (part_any _ _ _ _ _ _ xs ys _ FX.out FY.out hnm.out hnm'.out).mono ?_
  rintro e w19 ⟨rfl, hb19⟩
  have hBz := HB.out.size
  have HB2 := Lib.hid (HB.out.trans (hb19.mono hBz))
  clear HB hBz
  have HB := HB2
  clear HB2
  have HG2 := Lib.hid (HG.out.below hb19)
  clear HG
  have HG := HG2
  clear HG2
  have FA2 := Lib.hid (FA.out.next hb19)
  clear FA
  have FA := FA2
  clear FA2
  have FB2 := Lib.hid (FB.out.next hb19)
  clear FB
  have FB := FB2
  clear FB2
  have FX2 := Lib.hid (FX.out.next hb19)
  clear FX
  have FX := FX2
  clear FX2
  have FY2 := Lib.hid (FY.out.next hb19)
  clear FY
  have FY := FY2
  clear FY2
  have FM2 := Lib.hid (FM.out.next hb19)
  clear FM
  have FM := FM2
  clear FM2
  clear hb19
  rw [HPV.out]
  go_wp2_with fail
  refine (apart_any _ _ _ _ _ _ xs ys _ FX.out FY.out hnm.out hnm'.out).mono ?_
  rintro e w20 ⟨rfl, hb20⟩
  have hBz := HB.out.size
  have HB2 := Lib.hid (HB.out.trans (hb20.mono hBz))
  clear HB hBz
  have HB := HB2
  clear HB2
  have HG2 := Lib.hid (HG.out.below hb20)
  clear HG
  have HG := HG2
  clear HG2
  have FA2 := Lib.hid (FA.out.next hb20)
  clear FA
  have FA := FA2
  clear FA2
  have FB2 := Lib.hid (FB.out.next hb20)
  clear FB
  have FB := FB2
  clear FB2
  have FX2 := Lib.hid (FX.out.next hb20)
  clear FX
  have FX := FX2
  clear FX2
  have FY2 := Lib.hid (FY.out.next hb20)
  clear FY
  have FY := FY2
  clear FY2
  have FM2 := Lib.hid (FM.out.next hb20)
  clear FM
  have FM := FM2
  clear FM2
  clear hb20
  rw [HAV.out]
  go_wp2_with fail
  refine (k_same FX.out FA.out hnm.out hnm.out rfl).mono ?_
  rintro e w21 ⟨rfl, hb21⟩
  have hBz := HB.out.size
  have HB2 := Lib.hid (HB.out.trans (hb21.mono hBz))
  clear HB hBz
  have HB := HB2
  clear HB2
  have HG2 := Lib.hid (HG.out.below hb21)
  clear HG
  have HG := HG2
  clear HG2
  have FA2 := Lib.hid (FA.out.next hb21)
  clear FA
  have FA := FA2
  clear FA2
  have FB2 := Lib.hid (FB.out.next hb21)
  clear FB
  have FB := FB2
  clear FB2
  have FX2 := Lib.hid (FX.out.next hb21)
  clear FX
  have FX := FX2
  clear FX2
  have FY2 := Lib.hid (FY.out.next hb21)
  clear FY
  have FY := FY2
  clear FY2
  have FM2 := Lib.hid (FM.out.next hb21)
  clear FM
  have FM := FM2
  clear FM2
  clear hb21
  go_wp2_with fail
  refine (k_same FY.out FB.out hnm'.out hnm'.out rfl).mono ?_
  rintro e w22 ⟨rfl, hb22⟩
  have hBz := HB.out.size
  have HB2 := Lib.hid (HB.out.trans (hb22.mono hBz))
  clear HB hBz
  have HB := HB2
  clear HB2
  have HG2 := Lib.hid (HG.out.below hb22)
  clear HG
  have HG := HG2
  clear HG2
  have FA2 := Lib.hid (FA.out.next hb22)
  clear FA
  have FA := FA2
  clear FA2
  have FB2 := Lib.hid (FB.out.next hb22)
  clear FB
  have FB := FB2
  clear FB2
  have FX2 := Lib.hid (FX.out.next hb22)
  clear FX
  have FX := FX2
  clear FX2
  have FY2 := Lib.hid (FY.out.next hb22)
  clear FY
  have FY := FY2
  clear FY2
  have FM2 := Lib.hid (FM.out.next hb22)
  clear FM
  have FM := FM2
  clear FM2
  clear hb22
  go_wp2
  go_ret
  exact ⟨rfl, HB.out⟩

set_option maxRecDepth 100000 in
set_option maxHeartbeats 8000000 in
theorem right_true_false (A A' : Option Addr) (n c n' c' : Nat) (xs ys : List Int) (v : Int) (hv bp ba : Bool) (w : World) (hfa : RI w w.heap.size A n xs) (hfb : RI w w.heap.size A' n' ys) (hnil : A = none → c = 0) (hnil' : A' = none → c' = 0) (hle : n ≤ 300) (hle' : n' ≤ 300) (hg : GlobOk w)
    (hrx : rightB xs = true) (hry : rightB ys = false) (hhv : hasB xs v = hv) (hpv : partB xs ys = bp) (hav : apartB xs ys = ba) (hbp : bp = false) (hba : ba = false) :
    Calls Tryd.prog 3 #[.slice A n c, .slice A' n' c', .int .i64 v] w fun e w' => e = .returned (.bool true) ∧ Below w.heap.size w w' := by
  have HRX := Lib.hid hrx
  have HRY := Lib.hid hry
  have HHV := Lib.hid hhv
  have HPV := Lib.hid hpv
  have HAV := Lib.hid hav
  have hnm : Hid (n ≤ maxLen) := Lib.hid (by unfold maxLen; omega)
  have hnm' : Hid (n' ≤ maxLen) := Lib.hid (by unfold maxLen; omega)
  have FA := Lib.hid hfa
  have FB := Lib.hid hfb
  have HG := Lib.hid hg
  have HB := Lib.hid (Below.refl w.heap.size w)
  clear hrx hry hhv hpv hav hfa hfb hg
  obtain ⟨i0, hi, hz0, hz1, hz2⟩ := info_parts int_info
  go_enter Tryd.func3, Tryd.ntmps3
  subst hbp
  subst hba
  go_wp2_with fail
  refine (awake_any _ HG.out).mono ?_
  rintro e w1 ⟨rfl, hb1⟩
  have hBz := HB.out.size
  have HB2 := Lib.hid (HB.out.trans (hb1.mono hBz))
  clear HB hBz
  have HB := HB2
  clear HB2
  have HG2 := Lib.hid (HG.out.below hb1)
  clear HG
  have HG := HG2
  clear HG2
  have FA2 := Lib.hid (FA.out.next hb1)
  clear FA
  have FA := FA2
  clear FA2
  have FB2 := Lib.hid (FB.out.next hb1)
  clear FB
  have FB := FB2
  clear FB2
  clear hb1
  go_wp2_with (at_builtin; refine wpList_append_RI _ rfl (.tmp 22) (.tmp 23) 22 rfl w1.heap.size 3 i0 (.int .i64 0) 8 Tryd.underlying22 hi hz0 hz1 hz2 rfl (.slice (some ⟨w1.heap.size, 0, none⟩) 0 0) 0 [] rfl (own_empty w1 _) w1.heap.size A n c _ rfl (FA.out.below (Below.alloc (Below.refl _ _) (Nat.le_refl _) _)) hnil (by unfold maxLen; omega) (by omega) (by simp) ?_; intro v2 w2 hown2 hg2; refine Hid.out ?_)
  refine Lib.hid ?_
  have hb2 : Below w1.heap.size w1 w2 := (Below.alloc (Below.refl _ _) (Nat.le_refl _) _).grown hg2 (by simp) (fun j hj => (Nat.le_of_eq (by simpa [Value.ownBlock] using hj)))
  rw [List.nil_append, Nat.zero_add] at hown2
  obtain ⟨A2, c2, rfl⟩ := own_form hown2
  have hBz := HB.out.size
  have HB2 := Lib.hid (HB.out.trans (hb2.mono hBz))
  clear HB hBz
  have HB := HB2
  clear HB2
  have HG2 := Lib.hid (HG.out.below hb2)
  clear HG
  have HG := HG2
  clear HG2
  have FA2 := Lib.hid (FA.out.next hb2)
  clear FA
  have FA := FA2
  clear FA2
  have FB2 := Lib.hid (FB.out.next hb2)
  clear FB
  have FB := FB2
  clear FB2
  clear hb2
  have FX := Lib.hid (RI.of_own hown2)
  clear hown2 hg2
  go_wp2_with (at_builtin; refine wpList_append_RI _ rfl (.tmp 25) (.tmp 26) 22 rfl w2.heap.size 3 i0 (.int .i64 0) 8 Tryd.underlying22 hi hz0 hz1 hz2 rfl (.slice (some ⟨w2.heap.size, 0, none⟩) 0 0) 0 [] rfl (own_empty w2 _) w2.heap.size A' n' c' _ rfl (FB.out.below (Below.alloc (Below.refl _ _) (Nat.le_refl _) _)) hnil' (by unfold maxLen; omega) (by omega) (by simp) ?_; intro v3 w3 hown3 hg3; refine Hid.out ?_)
  refine Lib.hid ?_
  have hb3 : Below w2.heap.size w2 w3 := (Below.alloc (Below.refl _ _) (Nat.le_refl _) _).grown hg3 (by simp) (fun j hj => (Nat.le_of_eq (by simpa [Value.ownBlock] using hj)))
  rw [List.nil_append, Nat.zero_add] at hown3
  obtain ⟨A3, c3, rfl⟩ := own_form hown3
  have hBz := HB.out.size
  have HB2 := Lib.hid (HB.out.trans (hb3.mono hBz))
  clear HB hBz
  have HB := HB2
  clear HB2
  have HG2 := Lib.hid (HG.out.below hb3)
  clear HG
  have HG := HG2
  clear HG2
  have FA2 := Lib.hid (FA.out.next hb3)
  clear FA
  have FA := FA2
  clear FA2
  have FB2 := Lib.hid (FB.out.next hb3)
  clear FB
  have FB := FB2
  clear FB2
  have FX2 := Lib.hid (FX.out.next hb3)
  clear FX
  have FX := FX2
  clear FX2
  clear hb3
  have FY := Lib.hid (RI.of_own hown3)
  clear hown3 hg3
  go_wp2_with fail
  refine (which_any 1 1 (.inr (.inl ⟨rfl, rfl⟩)) _ _ _ _ _ _ xs ys _ FA.out FB.out hnm.out hnm'.out).mono ?_
  rintro e w4 ⟨⟨A4, c4, hc4, rfl, hr4⟩, hb4⟩
  have hBz := HB.out.size
  have HB2 := Lib.hid (HB.out.trans (hb4.mono hBz))
  clear HB hBz
  have HB := HB2
  clear HB2
  have HG2 := Lib.hid (HG.out.below hb4)
  clear HG
  have HG := HG2
  clear HG2
  have FA2 := Lib.hid (FA.out.next hb4)
  clear FA
  have FA := FA2
  clear FA2
  have FB2 := Lib.hid (FB.out.next hb4)
  clear FB
  have FB := FB2
  clear FB2
  have FX2 := Lib.hid (FX.out.next hb4)
  clear FX
  have FX := FX2
  clear FX2
  have FY2 := Lib.hid (FY.out.next hb4)
  clear FY
  have FY := FY2
  clear FY2
  clear hb4
  have FM := Lib.hid hr4
  have FMc := Lib.hid hc4
  clear hr4 hc4
  go_wp2_with fail
  refine (k_refRight FA.out hnm.out HRX.out).mono ?_
  rintro e w5 ⟨rfl, hb5⟩
  have hBz := HB.out.size
  have HB2 := Lib.hid (HB.out.trans (hb5.mono hBz))
  clear HB hBz
  have HB := HB2
  clear HB2
  have HG2 := Lib.hid (HG.out.below hb5)
  clear HG
  have HG := HG2
  clear HG2
  have FA2 := Lib.hid (FA.out.next hb5)
  clear FA
  have FA := FA2
  clear FA2
  have FB2 := Lib.hid (FB.out.next hb5)
  clear FB
  have FB := FB2
  clear FB2
  have FX2 := Lib.hid (FX.out.next hb5)
  clear FX
  have FX := FX2
  clear FX2
  have FY2 := Lib.hid (FY.out.next hb5)
  clear FY
  have FY := FY2
  clear FY2
  have FM2 := Lib.hid (FM.out.next hb5)
  clear FM
  have FM := FM2
  clear FM2
  clear hb5
  go_wp2_with fail
  refine (k_refRight FB.out hnm'.out HRY.out).mono ?_
  rintro e w6 ⟨rfl, hb6⟩
  have hBz := HB.out.size
  have HB2 := Lib.hid (HB.out.trans (hb6.mono hBz))
  clear HB hBz
  have HB := HB2
  clear HB2
  have HG2 := Lib.hid (HG.out.below hb6)
  clear HG
  have HG := HG2
  clear HG2
  have FA2 := Lib.hid (FA.out.next hb6)
  clear FA
  have FA := FA2
  clear FA2
  have FB2 := Lib.hid (FB.out.next hb6)
  clear FB
  have FB := FB2
  clear FB2
  have FX2 := Lib.hid (FX.out.next hb6)
  clear FX
  have FX := FX2
  clear FX2
  have FY2 := Lib.hid (FY.out.next hb6)
  clear FY
  have FY := FY2
  clear FY2
  have FM2 := Lib.hid (FM.out.next hb6)
  clear FM
  have FM := FM2
  clear FM2
  clear hb6
  go_wp2_with fail
  refine (k_right FX.out hnm.out HRX.out).mono ?_
  rintro e w7 ⟨rfl, hb7⟩
  have hBz := HB.out.size
  have HB2 := Lib.hid (HB.out.trans (hb7.mono hBz))
  clear HB hBz
  have HB := HB2
  clear HB2
  have HG2 := Lib.hid (HG.out.below hb7)
  clear HG
  have HG := HG2
  clear HG2
  have FA2 := Lib.hid (FA.out.next hb7)
  clear FA
  have FA := FA2
  clear FA2
  have FB2 := Lib.hid (FB.out.next hb7)
  clear FB
  have FB := FB2
  clear FB2
  have FX2 := Lib.hid (FX.out.next hb7)
  clear FX
  have FX := FX2
  clear FX2
  have FY2 := Lib.hid (FY.out.next hb7)
  clear FY
  have FY := FY2
  clear FY2
  have FM2 := Lib.hid (FM.out.next hb7)
  clear FM
  have FM := FM2
  clear FM2
  clear hb7
  go_wp2_with fail
  refine (k_refRight FA.out hnm.out HRX.out).mono ?_
  rintro e w8 ⟨rfl, hb8⟩
  have hBz := HB.out.size
  have HB2 := Lib.hid (HB.out.trans (hb8.mono hBz))
  clear HB hBz
  have HB := HB2
  clear HB2
  have HG2 := Lib.hid (HG.out.below hb8)
  clear HG
  have HG := HG2
  clear HG2
  have FA2 := Lib.hid (FA.out.next hb8)
  clear FA
  have FA := FA2
  clear FA2
  have FB2 := Lib.hid (FB.out.next hb8)
  clear FB
  have FB := FB2
  clear FB2
  have FX2 := Lib.hid (FX.out.next hb8)
  clear FX
  have FX := FX2
  clear FX2
  have FY2 := Lib.hid (FY.out.next hb8)
  clear FY
  have FY := FY2
  clear FY2
  have FM2 := Lib.hid (FM.out.next hb8)
  clear FM
  have FM := FM2
  clear FM2
  clear hb8
  go_wp2_with fail
  refine (join_ops _ _ _ _ _ _ xs ys _ FX.out FY.out hnm.out hnm'.out HG.out.tz (tz_lt HG.out)).mono ?_
  rintro e w9 ⟨⟨A9, c9, hc9, rfl, hr9⟩, hb9⟩
  have hBz := HB.out.size
  have HB2 := Lib.hid (HB.out.trans (hb9.mono hBz))
  clear HB hBz
  have HB := HB2
  clear HB2
  have HG2 := Lib.hid (HG.out.below hb9)
  clear HG
  have HG := HG2
  clear HG2
  have FA2 := Lib.hid (FA.out.next hb9)
  clear FA
  have FA := FA2
  clear FA2
  have FB2 := Lib.hid (FB.out.next hb9)
  clear FB
  have FB := FB2
  clear FB2
  have FX2 := Lib.hid (FX.out.next hb9)
  clear FX
  have FX := FX2
  clear FX2
  have FY2 := Lib.hid (FY.out.next hb9)
  clear FY
  have FY := FY2
  clear FY2
  have FM2 := Lib.hid (FM.out.next hb9)
  clear FM
  have FM := FM2
  clear FM2
  clear hb9
  have FJ := Lib.hid hr9
  have FJc := Lib.hid hc9
  clear hr9 hc9
  go_wp2_with fail
  refine (which_any 0 0 (.inl ⟨rfl, rfl⟩) _ _ _ _ _ _ xs ys _ FA.out FB.out hnm.out hnm'.out).mono ?_
  rintro e w10 ⟨⟨A10, c10, hc10, rfl, hr10⟩, hb10⟩
  have hBz := HB.out.size
  have HB2 := Lib.hid (HB.out.trans (hb10.mono hBz))
  clear HB hBz
  have HB := HB2
  clear HB2
  have HG2 := Lib.hid (HG.out.below hb10)
  clear HG
  have HG := HG2
  clear HG2
  have FA2 := Lib.hid (FA.out.next hb10)
  clear FA
  have FA := FA2
  clear FA2
  have FB2 := Lib.hid (FB.out.next hb10)
  clear FB
  have FB := FB2
  clear FB2
  have FX2 := Lib.hid (FX.out.next hb10)
  clear FX
  have FX := FX2
  clear FX2
  have FY2 := Lib.hid (FY.out.next hb10)
  clear FY
  have FY := FY2
  clear FY2
  have FM2 := Lib.hid (FM.out.next hb10)
  clear FM
  have FM := FM2
  clear FM2
  have FJ2 := Lib.hid (FJ.out.next hb10)
  clear FJ
  have FJ := FJ2
  clear FJ2
  clear hb10
  have FW := Lib.hid hr10
  have FWc := Lib.hid hc10
  clear hr10 hc10
  go_wp2_with fail
  refine (k_same FJ.out FW.out (ml_join xs ys) (ml_which 0 xs ys) rfl).mono ?_
  rintro e w11 ⟨rfl, hb11⟩
  have hBz := HB.out.size
  have HB2 := Lib.hid (HB.out.trans (hb11.mono hBz))
  clear HB hBz
  have HB := HB2
  clear HB2
  have HG2 := Lib.hid (HG.out.below hb11)
  clear HG
  have HG := HG2
  clear HG2
  have FA2 := Lib.hid (FA.out.next hb11)
  clear FA
  have FA := FA2
  clear FA2
  have FB2 := Lib.hid (FB.out.next hb11)
  clear FB
  have FB := FB2
  clear FB2
  have FX2 := Lib.hid (FX.out.next hb11)
  clear FX
  have FX := FX2
  clear FX2
  have FY2 := Lib.hid (FY.out.next hb11)
  clear FY
  have FY := FY2
  clear FY2
  have FM2 := Lib.hid (FM.out.next hb11)
  clear FM
  have FM := FM2
  clear FM2
  have FJ2 := Lib.hid (FJ.out.next hb11)
  clear FJ
  have FJ := FJ2
  clear FJ2
  have FW2 := Lib.hid (FW.out.next hb11)
  clear FW
  have FW := FW2
  clear FW2
  clear hb11
  clear FJ
  clear FW
  go_wp2_with fail
  refine (meet_ops _ _ _ _ _ _ xs ys _ FX.out FY.out hnm.out hnm'.out HG.out.tz (tz_lt HG.out)).mono ?_
  rintro e w12 ⟨⟨A12, c12, hc12, rfl, hr12⟩, hb12⟩
  have hBz := HB.out.size
  have HB2 := Lib.hid (HB.out.trans (hb12.mono hBz))
  clear HB hBz
  have HB := HB2
  clear HB2
  have HG2 := Lib.hid (HG.out.below hb12)
  clear HG
  have HG := HG2
  clear HG2
  have FA2 := Lib.hid (FA.out.next hb12)
  clear FA
  have FA := FA2
  clear FA2
  have FB2 := Lib.hid (FB.out.next hb12)
  clear FB
  have FB := FB2
  clear FB2
  have FX2 := Lib.hid (FX.out.next hb12)
  clear FX
  have FX := FX2
  clear FX2
  have FY2 := Lib.hid (FY.out.next hb12)
  clear FY
  have FY := FY2
  clear FY2
  have FM2 := Lib.hid (FM.out.next hb12)
  clear FM
  have FM := FM2
  clear FM2
  clear hb12
  have FJ := Lib.hid hr12
  have FJc := Lib.hid hc12
  clear hr12 hc12
  go_wp2_with fail
  refine (k_same FJ.out FM.out (ml_meet xs ys) (ml_which 1 xs ys) rfl).mono ?_
  rintro e w13 ⟨rfl, hb13⟩
  have hBz := HB.out.size
  have HB2 := Lib.hid (HB.out.trans (hb13.mono hBz))
  clear HB hBz
  have HB := HB2
  clear HB2
  have HG2 := Lib.hid (HG.out.below hb13)
  clear HG
  have HG := HG2
  clear HG2
  have FA2 := Lib.hid (FA.out.next hb13)
  clear FA
  have FA := FA2
  clear FA2
  have FB2 := Lib.hid (FB.out.next hb13)
  clear FB
  have FB := FB2
  clear FB2
  have FX2 := Lib.hid (FX.out.next hb13)
  clear FX
  have FX := FX2
  clear FX2
  have FY2 := Lib.hid (FY.out.next hb13)
  clear FY
  have FY := FY2
  clear FY2
  have FM2 := Lib.hid (FM.out.next hb13)
  clear FM
  have FM := FM2
  clear FM2
  have FJ2 := Lib.hid (FJ.out.next hb13)
  clear FJ
  have FJ := FJ2
  clear FJ2
  clear hb13
  clear FJ
  go_wp2_with fail
  refine (less_ops _ _ _ _ _ _ xs ys _ FX.out FY.out hnm.out hnm'.out HG.out.tz (tz_lt HG.out)).mono ?_
  rintro e w14 ⟨⟨A14, c14, hc14, rfl, hr14⟩, hb14⟩
  have hBz := HB.out.size
  have HB2 := Lib.hid (HB.out.trans (hb14.mono hBz))
  clear HB hBz
  have HB := HB2
  clear HB2
  have HG2 := Lib.hid (HG.out.below hb14)
  clear HG
  have HG := HG2
  clear HG2
  have FA2 := Lib.hid (FA.out.next hb14)
  clear FA
  have FA := FA2
  clear FA2
  have FB2 := Lib.hid (FB.out.next hb14)
  clear FB
  have FB := FB2
  clear FB2
  have FX2 := Lib.hid (FX.out.next hb14)
  clear FX
  have FX := FX2
  clear FX2
  have FY2 := Lib.hid (FY.out.next hb14)
  clear FY
  have FY := FY2
  clear FY2
  have FM2 := Lib.hid (FM.out.next hb14)
  clear FM
  have FM := FM2
  clear FM2
  clear hb14
  have FJ := Lib.hid hr14
  have FJc := Lib.hid hc14
  clear hr14 hc14
  go_wp2_with fail
  refine (which_any 2 2 (.inr (.inr ⟨rfl, rfl⟩)) _ _ _ _ _ _ xs ys _ FA.out FB.out hnm.out hnm'.out).mono ?_
  rintro e w15 ⟨⟨A15, c15, hc15, rfl, hr15⟩, hb15⟩
  have hBz := HB.out.size
  have HB2 := Lib.hid (HB.out.trans (hb15.mono hBz))
  clear HB hBz
  have HB := HB2
  clear HB2
  have HG2 := Lib.hid (HG.out.below hb15)
  clear HG
  have HG := HG2
  clear HG2
  have FA2 := Lib.hid (FA.out.next hb15)
  clear FA
  have FA := FA2
  clear FA2
  have FB2 := Lib.hid (FB.out.next hb15)
  clear FB
  have FB := FB2
  clear FB2
  have FX2 := Lib.hid (FX.out.next hb15)
  clear FX
  have FX := FX2
  clear FX2
  have FY2 := Lib.hid (FY.out.next hb15)
  clear FY
  have FY := FY2
  clear FY2
  have FM2 := Lib.hid (FM.out.next hb15)
  clear FM
  have FM := FM2
  clear FM2
  have FJ2 := Lib.hid (FJ.out.next hb15)
  clear FJ
  have FJ := FJ2
  clear FJ2
  clear hb15
  have FW := Lib.hid hr15
  have FWc := Lib.hid hc15
  clear hr15 hc15
  go_wp2_with fail
  refine (k_same FJ.out FW.out (ml_less xs ys) (ml_which 2 xs ys) rfl).mono ?_
  rintro e w16 ⟨rfl, hb16⟩
  have hBz := HB.out.size
  have HB2 := Lib.hid (HB.out.trans (hb16.mono hBz))
  clear HB hBz
  have HB := HB2
  clear HB2
  have HG2 := Lib.hid (HG.out.below hb16)
  clear HG
  have HG := HG2
  clear HG2
  have FA2 := Lib.hid (FA.out.next hb16)
  clear FA
  have FA := FA2
  clear FA2
  have FB2 := Lib.hid (FB.out.next hb16)
  clear FB
  have FB := FB2
  clear FB2
  have FX2 := Lib.hid (FX.out.next hb16)
  clear FX
  have FX := FX2
  clear FX2
  have FY2 := Lib.hid (FY.out.next hb16)
  clear FY
  have FY := FY2
  clear FY2
  have FM2 := Lib.hid (FM.out.next hb16)
  clear FM
  have FM := FM2
  clear FM2
  have FJ2 := Lib.hid (FJ.out.next hb16)
  clear FJ
  have FJ := FJ2
  clear FJ2
  have FW2 := Lib.hid (FW.out.next hb16)
  clear FW
  have FW := FW2
  clear FW2
  clear hb16
  clear FJ
  clear FW
  go_wp2_with fail
  refine (has_any _ _ _ xs v _ FX.out hnm.out).mono ?_
  rintro e w17 ⟨rfl, hb17⟩
  have hBz := HB.out.size
  have HB2 := Lib.hid (HB.out.trans (hb17.mono hBz))
  clear HB hBz
  have HB := HB2
  clear HB2
  have HG2 := Lib.hid (HG.out.below hb17)
  clear HG
  have HG := HG2
  clear HG2
  have FA2 := Lib.hid (FA.out.next hb17)
  clear FA
  have FA := FA2
  clear FA2
  have FB2 := Lib.hid (FB.out.next hb17)
  clear FB
  have FB := FB2
  clear FB2
  have FX2 := Lib.hid (FX.out.next hb17)
  clear FX
  have FX := FX2
  clear FX2
  have FY2 := Lib.hid (FY.out.next hb17)
  clear FY
  have FY := FY2
  clear FY2
  have FM2 := Lib.hid (FM.out.next hb17)
  clear FM
  have FM := FM2
  clear FM2
  clear hb17
  rw [HHV.out]
  go_wp2_with fail
  refine (k_refHas FA.out hnm.out).mono ?_
  rintro e w18 ⟨rfl, hb18⟩
  have hBz := HB.out.size
  have HB2 := Lib.hid (HB.out.trans (hb18.mono hBz))
  clear HB hBz
  have HB := HB2
  clear HB2
  have HG2 := Lib.hid (HG.out.below hb18)
  clear HG
  have HG := HG2
  clear HG2
  have FA2 := Lib.hid (FA.out.next hb18)
  clear FA
  have FA := FA2
  clear FA2
  have FB2 := Lib.hid (FB.out.next hb18)
  clear FB
  have FB := FB2
  clear FB2
  have FX2 := Lib.hid (FX.out.next hb18)
  clear FX
  have FX := FX2
  clear FX2
  have FY2 := Lib.hid (FY.out.next hb18)
  clear FY
  have FY := FY2
  clear FY2
  have FM2 := Lib.hid (FM.out.next hb18)
  clear FM
  have FM := FM2
  clear FM2
  clear hb18
  rw [HHV.out]
  go_wp2_with fail
  refine (part_any _ _ _ _ _ _ xs ys _ FX.out FY.out hnm.out hnm'.out).mono ?_
  rintro e w19 ⟨rfl, hb19⟩
  have hBz := HB.out.size
  have HB2 := Lib.hid (HB.out.trans (hb19.mono hBz))
  clear HB hBz
  have HB := HB2
  clear HB2
  have HG2 := Lib.hid (HG.out.below hb19)
  clear HG
  have HG := HG2
  clear HG2
  have FA2 := Lib.hid (FA.out.next hb19)
  clear FA
  have FA := FA2
  clear FA2
  have FB2 := Lib.hid (FB.out.next hb19)
  clear FB
  have FB := FB2
  clear FB2
  have FX2 := Lib.hid (FX.out.next hb19)
  clear FX
  have FX := FX2
  clear FX2
  have FY2 := Lib.hid (FY.out.next hb19)
  clear FY
  have FY := FY2
  clear FY2
  have FM2 := Lib.hid (FM.out.next hb19)
  clear FM
  have FM := FM2
  clear FM2
  clear hb19
  rw [HPV.out]
  go_wp2_with fail
  refine (apart_any _ _ _ _ _ _ xs ys _ FX.out FY.out hnm.out hnm'.out).mono ?_
  rintro e w20 ⟨rfl, hb20⟩
  have hBz := HB.out.size
  have HB2 := Lib.hid (HB.out.trans (hb20.mono hBz))
  clear HB hBz
  have HB := HB2
  clear HB2
  have HG2 := Lib.hid (HG.out.below hb20)
  clear HG
  have HG := HG2
  clear HG2
  have FA2 := Lib.hid (FA.out.next hb20)
  clear FA
  have FA := FA2
  clear FA2
  have FB2 := Lib.hid (FB.out.next hb20)
  clear FB
  have FB := FB2
  clear FB2
  have FX2 := Lib.hid (FX.out.next hb20)
  clear FX
  have FX := FX2
  clear FX2
  have FY2 := Lib.hid (FY.out.next hb20)
  clear FY
  have FY := FY2
  clear FY2
  have FM2 := Lib.hid (FM.out.next hb20)
  clear FM
  have FM := FM2
  clear FM2
  clear hb20
  rw [HAV.out]
  go_wp2_with fail
  refine (k_same FX.out FA.out hnm.out hnm.out rfl).mono ?_
  rintro e w21 ⟨rfl, hb21⟩
  have hBz := HB.out.size
  have HB2 := Lib.hid (HB.out.trans (hb21.mono hBz))
  clear HB hBz
  have HB := HB2
  clear HB2
  have HG2 := Lib.hid (HG.out.below hb21)
  clear HG
  have HG := HG2
  clear HG2
  have FA2 := Lib.hid (FA.out.next hb21)
  clear FA
  have FA := FA2
  clear FA2
  have FB2 := Lib.hid (FB.out.next hb21)
  clear FB
  have FB := FB2
  clear FB2
  have FX2 := Lib.hid (FX.out.next hb21)
  clear FX
  have FX := FX2
  clear FX2
  have FY2 := Lib.hid (FY.out.next hb21)
  clear FY
  have FY := FY2
  clear FY2
  have FM2 := Lib.hid (FM.out.next hb21)
  clear FM
  have FM := FM2
  clear FM2
  clear hb21
  go_wp2_with fail
  refine (k_same FY.out FB.out hnm'.out hnm'.out rfl).mono ?_
  rintro e w22 ⟨rfl, hb22⟩
  have hBz := HB.out.size
  have HB2 := Lib.hid (HB.out.trans (hb22.mono hBz))
  clear HB hBz
  have HB := HB2
  clear HB2
  have HG2 := Lib.hid (HG.out.below hb22)
  clear HG
  have HG := HG2
  clear HG2
  have FA2 := Lib.hid (FA.out.next hb22)
  clear FA
  have FA := FA2
  clear FA2
  have FB2 := Lib.hid (FB.out.next hb22)
  clear FB
  have FB := FB2
  clear FB2
  have FX2 := Lib.hid (FX.out.next hb22)
  clear FX
  have FX := FX2
  clear FX2
  have FY2 := Lib.hid (FY.out.next hb22)
  clear FY
  have FY := FY2
  clear FY2
  have FM2 := Lib.hid (FM.out.next hb22)
  clear FM
  have FM := FM2
  clear FM2
  clear hb22
  go_wp2
  go_ret
  exact ⟨rfl, HB.out⟩

set_option maxRecDepth 100000 in
set_option maxHeartbeats 8000000 in
theorem right_false_true (A A' : Option Addr) (n c n' c' : Nat) (xs ys : List Int) (v : Int) (hv bp ba : Bool) (w : World) (hfa : RI w w.heap.size A n xs) (hfb : RI w w.heap.size A' n' ys) (hnil : A = none → c = 0) (hnil' : A' = none → c' = 0) (hle : n ≤ 300) (hle' : n' ≤ 300) (hg : GlobOk w)
    (hrx : rightB xs = false) (hry : rightB ys = true) (hhv : hasB xs v = hv) (hpv : partB xs ys = bp) (hav : apartB xs ys = ba) (hbp : bp = false) (hba : ba = false) :
    Calls Tryd.prog 3 #[.slice A n c, .slice A' n' c', .int .i64 v] w fun e w' => e = .returned (.bool true) ∧ Below w.heap.size w w' := by
  have HRX := Lib.hid hrx
  have HRY := Lib.hid hry
  have HHV := Lib.hid hhv
  have HPV := Lib.hid hpv
  have HAV := Lib.hid hav
  have hnm : Hid (n ≤ maxLen) := Lib.hid (by unfold maxLen; omega)
  have hnm' : Hid (n' ≤ maxLen) := Lib.hid (by unfold maxLen; omega)
  have FA := Lib.hid hfa
  have FB := Lib.hid hfb
  have HG := Lib.hid hg
  have HB := Lib.hid (Below.refl w.heap.size w)
  clear hrx hry hhv hpv hav hfa hfb hg
  obtain ⟨i0, hi, hz0, hz1, hz2⟩ := info_parts int_info
  go_enter Tryd.func3, Tryd.ntmps3
  subst hbp
  subst hba
  go_wp2_with fail
  refine (awake_any _ HG.out).mono ?_
  rintro e w1 ⟨rfl, hb1⟩
  have hBz := HB.out.size
  have HB2 := Lib.hid (HB.out.trans (hb1.mono hBz))
  clear HB hBz
  have HB := HB2
  clear HB2
  have HG2 := Lib.hid (HG.out.below hb1)
  clear HG
  have HG := HG2
  clear HG2
  have FA2 := Lib.hid (FA.out.next hb1)
  clear FA
  have FA := FA2
  clear FA2
  have FB2 := Lib.hid (FB.out.next hb1)
  clear FB
  have FB := FB2
  clear FB2
  clear hb1
  go_wp2_with (at_builtin; refine wpList_append_RI _ rfl (.tmp 22) (.tmp 23) 22 rfl w1.heap.size 3 i0 (.int .i64 0) 8 Tryd.underlying22 hi hz0 hz1 hz2 rfl (.slice (some ⟨w1.heap.size, 0, none⟩) 0 0) 0 [] rfl (own_empty w1 _) w1.heap.size A n c _ rfl (FA.out.below (Below.alloc (Below.refl _ _) (Nat.le_refl _) _)) hnil (by unfold maxLen; omega) (by omega) (by simp) ?_; intro v2 w2 hown2 hg2; refine Hid.out ?_)
  refine Lib.hid ?_
  have hb2 : Below w1.heap.size w1 w2 := (Below.alloc (Below.refl _ _) (Nat.le_refl _) _).grown hg2 (by simp) (fun j hj => (Nat.le_of_eq (by simpa [Value.ownBlock] using hj)))
  rw [List.nil_append, Nat.zero_add] at hown2
  obtain ⟨A2, c2, rfl⟩ := own_form hown2
  have hBz := HB.out.size
  have HB2 := Lib.hid (HB.out.trans (hb2.mono hBz))
  clear HB hBz
  have HB := HB2
  clear HB2
  have HG2 := Lib.hid (HG.out.below hb2)
  clear HG
  have HG := HG2
  clear HG2
  have FA2 := Lib.hid (FA.out.next hb2)
  clear FA
  have FA := FA2
  clear FA2
  have FB2 := Lib.hid (FB.out.next hb2)
  clear FB
  have FB := FB2
  clear FB2
  clear hb2
  have FX := Lib.hid (RI.of_own hown2)
  clear hown2 hg2
  go_wp2_with (at_builtin; refine wpList_append_RI _ rfl (.tmp 25) (.tmp 26) 22 rfl w2.heap.size 3 i0 (.int .i64 0) 8 Tryd.underlying22 hi hz0 hz1 hz2 rfl (.slice (some ⟨w2.heap.size, 0, none⟩) 0 0) 0 [] rfl (own_empty w2 _) w2.heap.size A' n' c' _ rfl (FB.out.below (Below.alloc (Below.refl _ _) (Nat.le_refl _) _)) hnil' (by unfold maxLen; omega) (by omega) (by simp) ?_; intro v3 w3 hown3 hg3; refine Hid.out ?_)
  refine Lib.hid ?_
  have hb3 : Below w2.heap.size w2 w3 := (Below.alloc (Below.refl _ _) (Nat.le_refl _) _).grown hg3 (by simp) (fun j hj => (Nat.le_of_eq (by simpa [Value.ownBlock] using hj)))
  rw [List.nil_append, Nat.zero_add] at hown3
  obtain ⟨A3, c3, rfl⟩ := own_form hown3
  have hBz := HB.out.size
  have HB2 := Lib.hid (HB.out.trans (hb3.mono hBz))
  clear HB hBz
  have HB := HB2
  clear HB2
  have HG2 := Lib.hid (HG.out.below hb3)
  clear HG
  have HG := HG2
  clear HG2
  have FA2 := Lib.hid (FA.out.next hb3)
  clear FA
  have FA := FA2
  clear FA2
  have FB2 := Lib.hid (FB.out.next hb3)
  clear FB
  have FB := FB2
  clear FB2
  have FX2 := Lib.hid (FX.out.next hb3)
  clear FX
  have FX := FX2
  clear FX2
  clear hb3
  have FY := Lib.hid (RI.of_own hown3)
  clear hown3 hg3
  go_wp2_with fail
  refine (which_any 1 1 (.inr (.inl ⟨rfl, rfl⟩)) _ _ _ _ _ _ xs ys _ FA.out FB.out hnm.out hnm'.out).mono ?_
  rintro e w4 ⟨⟨A4, c4, hc4, rfl, hr4⟩, hb4⟩
  have hBz := HB.out.size
  have HB2 := Lib.hid (HB.out.trans (hb4.mono hBz))
  clear HB hBz
  have HB := HB2
  clear HB2
  have HG2 := Lib.hid (HG.out.below hb4)
  clear HG
  have HG := HG2
  clear HG2
  have FA2 := Lib.hid (FA.out.next hb4)
  clear FA
  have FA := FA2
  clear FA2
  have FB2 := Lib.hid (FB.out.next hb4)
  clear FB
  have FB := FB2
  clear FB2
  have FX2 := Lib.hid (FX.out.next hb4)
  clear FX
  have FX := FX2
  clear FX2
  have FY2 := Lib.hid (FY.out.next hb4)
  clear FY
  have FY := FY2
  clear FY2
  clear hb4
  have FM := Lib.hid hr4
  have FMc := Lib.hid hc4
  clear hr4 hc4
  go_wp2_with fail
  refine (k_refRight FA.out hnm.out HRX.out).mono ?_
  rintro e w5 ⟨rfl, hb5⟩
  have hBz := HB.out.size
  have HB2 := Lib.hid (HB.out.trans (hb5.mono hBz))
  clear HB hBz
  have HB := HB2
  clear HB2
  have HG2 := Lib.hid (HG.out.below hb5)
  clear HG
  have HG := HG2
  clear HG2
  have FA2 := Lib.hid (FA.out.next hb5)
  clear FA
  have FA := FA2
  clear FA2
  have FB2 := Lib.hid (FB.out.next hb5)
  clear FB
  have FB := FB2
  clear FB2
  have FX2 := Lib.hid (FX.out.next hb5)
  clear FX
  have FX := FX2
  clear FX2
  have FY2 := Lib.hid (FY.out.next hb5)
  clear FY
  have FY := FY2
  clear FY2
  have FM2 := Lib.hid (FM.out.next hb5)
  clear FM
  have FM := FM2
  clear FM2
  clear hb5
  go_wp2_with fail
  refine (k_right FX.out hnm.out HRX.out).mono ?_
  rintro e w6 ⟨rfl, hb6⟩
  have hBz := HB.out.size
  have HB2 := Lib.hid (HB.out.trans (hb6.mono hBz))
  clear HB hBz
  have HB := HB2
  clear HB2
  have HG2 := Lib.hid (HG.out.below hb6)
  clear HG
  have HG := HG2
  clear HG2
  have FA2 := Lib.hid (FA.out.next hb6)
  clear FA
  have FA := FA2
  clear FA2
  have FB2 := Lib.hid (FB.out.next hb6)
  clear FB
  have FB := FB2
  clear FB2
  have FX2 := Lib.hid (FX.out.next hb6)
  clear FX
  have FX := FX2
  clear FX2
  have FY2 := Lib.hid (FY.out.next hb6)
  clear FY
  have FY := FY2
  clear FY2
  have FM2 := Lib.hid (FM.out.next hb6)
  clear FM
  have FM := FM2
  clear FM2
  clear hb6
  go_wp2_with fail
  refine (k_refRight FA.out hnm.out HRX.out).mono ?_
  rintro e w7 ⟨rfl, hb7⟩
  have hBz := HB.out.size
  have HB2 := Lib.hid (HB.out.trans (hb7.mono hBz))
  clear HB hBz
  have HB := HB2
  clear HB2
  have HG2 := Lib.hid (HG.out.below hb7)
  clear HG
  have HG := HG2
  clear HG2
  have FA2 := Lib.hid (FA.out.next hb7)
  clear FA
  have FA := FA2
  clear FA2
  have FB2 := Lib.hid (FB.out.next hb7)
  clear FB
  have FB := FB2
  clear FB2
  have FX2 := Lib.hid (FX.out.next hb7)
  clear FX
  have FX := FX2
  clear FX2
  have FY2 := Lib.hid (FY.out.next hb7)
  clear FY
  have FY := FY2
  clear FY2
  have FM2 := Lib.hid (FM.out.next hb7)
  clear FM
  have FM := FM2
  clear FM2
  clear hb7
  go_wp2_with fail
  refine (join_ops _ _ _ _ _ _ xs ys _ FX.out FY.out hnm.out hnm'.out HG.out.tz (tz_lt HG.out)).mono ?_
  rintro e w8 ⟨⟨A8, c8, hc8, rfl, hr8⟩, hb8⟩
  have hBz := HB.out.size
  have HB2 := Lib.hid (HB.out.trans (hb8.mono hBz))
  clear HB hBz
  have HB := HB2
  clear HB2
  have HG2 := Lib.hid (HG.out.below hb8)
  clear HG
  have HG := HG2
  clear HG2
  have FA2 := Lib.hid (FA.out.next hb8)
  clear FA
  have FA := FA2
  clear FA2
  have FB2 := Lib.hid (FB.out.next hb8)
  clear FB
  have FB := FB2
  clear FB2
  have FX2 := Lib.hid (FX.out.next hb8)
  clear FX
  have FX := FX2
  clear FX2
  have FY2 := Lib.hid (FY.out.next hb8)
  clear FY
  have FY := FY2
  clear FY2
  have FM2 := Lib.hid (FM.out.next hb8)
  clear FM
  have FM := FM2
  clear FM2
  clear hb8
  have FJ := Lib.hid hr8
  have FJc := Lib.hid hc8
  clear hr8 hc8
  go_wp2_with fail
  refine (which_any 0 0 (.inl ⟨rfl, rfl⟩) _ _ _ _ _ _ xs ys _ FA.out FB.out hnm.out hnm'.out).mono ?_
  rintro e w9 ⟨⟨A9, c9, hc9, rfl, hr9⟩, hb9⟩
  have hBz := HB.out.size
  have HB2 := Lib.hid (HB.out.trans (hb9.mono hBz))
  clear HB hBz
  have HB := HB2
  clear HB2
  have HG2 := Lib.hid (HG.out.below hb9)
  clear HG
  have HG := HG2
  clear HG2
  have FA2 := Lib.hid (FA.out.next hb9)
  clear FA
  have FA := FA2
  clear FA2
  have FB2 := Lib.hid (FB.out.next hb9)
  clear FB
  have FB := FB2
  clear FB2
  have FX2 := Lib.hid (FX.out.next hb9)
  clear FX
  have FX := FX2
  clear FX2
  have FY2 := Lib.hid (FY.out.next hb9)
  clear FY
  have FY := FY2
  clear FY2
  have FM2 := Lib.hid (FM.out.next hb9)
  clear FM
  have FM := FM2
  clear FM2
  have FJ2 := Lib.hid (FJ.out.next hb9)
  clear FJ
  have FJ := FJ2
  clear FJ2
  clear hb9
  have FW := Lib.hid hr9
  have FWc := Lib.hid hc9
  clear hr9 hc9
  go_wp2_with fail
  refine (k_same FJ.out FW.out (ml_join xs ys) (ml_which 0 xs ys) rfl).mono ?_
  rintro e w10 ⟨rfl, hb10⟩
  have hBz := HB.out.size
  have HB2 := Lib.hid (HB.out.trans (hb10.mono hBz))
  clear HB hBz
  have HB := HB2
  clear HB2
  have HG2 := Lib.hid (HG.out.below hb10)
  clear HG
  have HG := HG2
  clear HG2
  have FA2 := Lib.hid (FA.out.next hb10)
  clear FA
  have FA := FA2
  clear FA2
  have FB2 := Lib.hid (FB.out.next hb10)
  clear FB
  have FB := FB2
  clear FB2
  have FX2 := Lib.hid (FX.out.next hb10)
  clear FX
  have FX := FX2
  clear FX2
  have FY2 := Lib.hid (FY.out.next hb10)
  clear FY
  have FY := FY2
  clear FY2
  have FM2 := Lib.hid (FM.out.next hb10)
  clear FM
  have FM := FM2
  clear FM2
  have FJ2 := Lib.hid (FJ.out.next hb10)
  clear FJ
  have FJ := FJ2
  clear FJ2
  have FW2 := Lib.hid (FW.out.next hb10)
  clear FW
  have FW := FW2
  clear FW2
  clear hb10
  clear FJ
  clear FW
  go_wp2_with fail
  refine (meet_ops _ _ _ _ _ _ xs ys _ FX.out FY.out hnm.out hnm'.out HG.out.tz (tz_lt HG.out)).mono ?_
  rintro e w11 ⟨⟨A11, c11, hc11, rfl, hr11⟩, hb11⟩
  have hBz := HB.out.size
  have HB2 := Lib.hid (HB.out.trans (hb11.mono hBz))
  clear HB hBz
  have HB := HB2
  clear HB2
  have HG2 := Lib.hid (HG.out.below hb11)
  clear HG
  have HG := HG2
  clear HG2
  have FA2 := Lib.hid (FA.out.next hb11)
  clear FA
  have FA := FA2
  clear FA2
  have FB2 := Lib.hid (FB.out.next hb11)
  clear FB
  have FB := FB2
  clear FB2
  have FX2 := Lib.hid (FX.out.next hb11)
  clear FX
  have FX := FX2
  clear FX2
  have FY2 := Lib.hid (FY.out.next hb11)
  clear FY
  have FY := FY2
  clear FY2
  have FM2 := Lib.hid (FM.out.next hb11)
  clear FM
  have FM := FM2
  clear FM2
  clear hb11
  have FJ := Lib.hid hr11
  have FJc := Lib.hid hc11
  clear hr11 hc11
  go_wp2_with fail
  refine (k_same FJ.out FM.out (ml_meet xs ys) (ml_which 1 xs ys) rfl).mono ?_
  rintro e w12 ⟨rfl, hb12⟩
  have hBz := HB.out.size
  have HB2 := Lib.hid (HB.out.trans (hb12.mono hBz))
  clear HB hBz
  have HB := HB2
  clear HB2
  have HG2 := Lib.hid (HG.out.below hb12)
  clear HG
  have HG := HG2
  clear HG2
  have FA2 := Lib.hid (FA.out.next hb12)
  clear FA
  have FA := FA2
  clear FA2
  have FB2 := Lib.hid (FB.out.next hb12)
  clear FB
  have FB := FB2
  clear FB2
  have FX2 := Lib.hid (FX.out.next hb12)
  clear FX
  have FX := FX2
  clear FX2
  have FY2 := Lib.hid (FY.out.next hb12)
  clear FY
  have FY := FY2
  clear FY2
  have FM2 := Lib.hid (FM.out.next hb12)
  clear FM
  have FM := FM2
  clear FM2
  have FJ2 := Lib.hid (FJ.out.next hb12)
  clear FJ
  have FJ := FJ2
  clear FJ2
  clear hb12
  clear FJ
  go_wp2_with fail
  refine (less_ops _ _ _ _ _ _ xs ys _ FX.out FY.out hnm.out hnm'.out HG.out.tz (tz_lt HG.out)).mono ?_
  rintro e w13 ⟨⟨A13, c13, hc13, rfl, hr13⟩, hb13⟩
  have hBz := HB.out.size
  have HB2 := Lib.hid (HB.out.trans (hb13.mono hBz))
  clear HB hBz
  have HB := HB2
  clear HB2
  have HG2 := Lib.hid (HG.out.below hb13)
  clear HG
  have HG := HG2
  clear HG2
  have FA2 := Lib.hid (FA.out.next hb13)
  clear FA
  have FA := FA2
  clear FA2
  have FB2 := Lib.hid (FB.out.next hb13)
  clear FB
  have FB := FB2
  clear FB2
  have FX2 := Lib.hid (FX.out.next hb13)
  clear FX
  have FX := FX2
  clear FX2
  have FY2 := Lib.hid (FY.out.next hb13)
  clear FY
  have FY := FY2
  clear FY2
  have FM2 := Lib.hid (FM.out.next hb13)
  clear FM
  have FM := FM2
  clear FM2
  clear hb13
  have FJ := Lib.hid hr13
  have FJc := Lib.hid hc13
  clear hr13 hc13
  go_wp2_with fail
  refine (which_any 2 2 (.inr (.inr ⟨rfl, rfl⟩)) _ _ _ _ _ _ xs ys _ FA.out FB.out hnm.out hnm'.out).mono ?_
  rintro e w14 ⟨⟨A14, c14, hc14, rfl, hr14⟩, hb14⟩
  have hBz := HB.out.size
  have HB2 := Lib.hid (HB.out.trans (hb14.mono hBz))
  clear HB hBz
  have HB := HB2
  clear HB2
  have HG2 := Lib.hid (HG.out.below hb14)
  clear HG
  have HG := HG2
  clear HG2
  have FA2 := Lib.hid (FA.out.next hb14)
  clear FA
  have FA := FA2
  clear FA2
  have FB2 := Lib.hid (FB.out.next hb14)
  clear FB
  have FB := FB2
  clear FB2
  have FX2 := Lib.hid (FX.out.next hb14)
  clear FX
  have FX := FX2
  clear FX2
  have FY2 := Lib.hid (FY.out.next hb14)
  clear FY
  have FY := FY2
  clear FY2
  have FM2 := Lib.hid (FM.out.next hb14)
  clear FM
  have FM := FM2
  clear FM2
  have FJ2 := Lib.hid (FJ.out.next hb14)
  clear FJ
  have FJ := FJ2
  clear FJ2
  clear hb14
  have FW := Lib.hid hr14
  have FWc := Lib.hid hc14
  clear hr14 hc14
  go_wp2_with fail
  refine (k_same FJ.out FW.out (ml_less xs ys) (ml_which 2 xs ys) rfl).mono ?_
  rintro e w15 ⟨rfl, hb15⟩
  have hBz := HB.out.size
  have HB2 := Lib.hid (HB.out.trans (hb15.mono hBz))
  clear HB hBz
  have HB := HB2
  clear HB2
  have HG2 := Lib.hid (HG.out.below hb15)
  clear HG
  have HG := HG2
  clear HG2
  have FA2 := Lib.hid (FA.out.next hb15)
  clear FA
  have FA := FA2
  clear FA2
  have FB2 := Lib.hid (FB.out.next hb15)
  clear FB
  have FB := FB2
  clear FB2
  have FX2 := Lib.hid (FX.out.next hb15)
  clear FX
  have FX := FX2
  clear FX2
  have FY2 := Lib.hid (FY.out.next hb15)
  clear FY
  have FY := FY2
  clear FY2
  have FM2 := Lib.hid (FM.out.next hb15)
  clear FM
  have FM := FM2
  clear FM2
  have FJ2 := Lib.hid (FJ.out.next hb15)
  clear FJ
  have FJ := FJ2
  clear FJ2
  have FW2 := Lib.hid (FW.out.next hb15)
  clear FW
  have FW := FW2
  clear FW2
  clear hb15
  clear FJ
  clear FW
  go_wp2_with fail
  refine (has_any _ _ _ xs v _ FX.out hnm.out).mono ?_
  rintro e w16 ⟨rfl, hb16⟩
  have hBz := HB.out.size
  have HB2 := Lib.hid (HB.out.trans (hb16.mono hBz))
  clear HB hBz
  have HB := HB2
  clear HB2
  have HG2 := Lib.hid (HG.out.below hb16)
  clear HG
  have HG := HG2
  clear HG2
  have FA2 := Lib.hid (FA.out.next hb16)
  clear FA
  have FA := FA2
  clear FA2
  have FB2 := Lib.hid (FB.out.next hb16)
  clear FB
  have FB := FB2
  clear FB2
  have FX2 := Lib.hid (FX.out.next hb16)
  clear FX
  have FX := FX2
  clear FX2
  have FY2 := Lib.hid (FY.out.next hb16)
  clear FY
  have FY := FY2
  clear FY2
  have FM2 := Lib.hid (FM.out.next hb16)
  clear FM
  have FM := FM2
  clear FM2
  clear hb16
  rw [HHV.out]
  go_wp2_with fail
  refine (k_refHas FA.out hnm.out).mono ?_
  rintro e w17 ⟨rfl, hb17⟩
  have hBz := HB.out.size
  have HB2 := Lib.hid (HB.out.trans (hb17.mono hBz))
  clear HB hBz
  have HB := HB2
  clear HB2
  have HG2 := Lib.hid (HG.out.below hb17)
  clear HG
  have HG := HG2
  clear HG2
  have FA2 := Lib.hid (FA.out.next hb17)
  clear FA
  have FA := FA2
  clear FA2
  have FB2 := Lib.hid (FB.out.next hb17)
  clear FB
  have FB := FB2
  clear FB2
  have FX2 := Lib.hid (FX.out.next hb17)
  clear FX
  have FX := FX2
  clear FX2
  have FY2 := Lib.hid (FY.out.next hb17)
  clear FY
  have FY := FY2
  clear FY2
  have FM2 := Lib.hid (FM.out.next hb17)
  clear FM
  have FM := FM2
  clear FM2
  clear hb17
  rw [HHV.out]
  go_wp2_with fail
  refine (part_any _ _ _ _ _ _ xs ys _ FX.out FY.out hnm.out hnm'.out).mono ?_
  rintro e w18 ⟨rfl, hb18⟩
  have hBz := HB.out.size
  have HB2 := Lib.hid (HB.out.trans (hb18.mono hBz))
  clear HB hBz
  have HB := HB2
  clear HB2
  have HG2 := Lib.hid (HG.out.below hb18)
  clear HG
  have HG := HG2
  clear HG2
  have FA2 := Lib.hid (FA.out.next hb18)
  clear FA
  have FA := FA2
  clear FA2
  have FB2 := Lib.hid (FB.out.next hb18)
  clear FB
  have FB := FB2
  clear FB2
  have FX2 := Lib.hid (FX.out.next hb18)
  clear FX
  have FX := FX2
  clear FX2
  have FY2 := Lib.hid (FY.out.next hb18)
  clear FY
  have FY := FY2
  clear FY2
  have FM2 := Lib.hid (FM.out.next hb18)
  clear FM
  have FM := FM2
  clear FM2
  clear hb18
  rw [HPV.out]
  go_wp2_with fail
  refine (apart_any _ _ _ _ _ _ xs ys _ FX.out FY.out hnm.out hnm'.out).mono ?_
  rintro e w19 ⟨rfl, hb19⟩
  have hBz := HB.out.size
  have HB2 := Lib.hid (HB.out.trans (hb19.mono hBz))
  clear HB hBz
  have HB := HB2
  clear HB2
  have HG2 := Lib.hid (HG.out.below hb19)
  clear HG
  have HG := HG2
  clear HG2
  have FA2 := Lib.hid (FA.out.next hb19)
  clear FA
  have FA := FA2
  clear FA2
  have FB2 := Lib.hid (FB.out.next hb19)
  clear FB
  have FB := FB2
  clear FB2
  have FX2 := Lib.hid (FX.out.next hb19)
  clear FX
  have FX := FX2
  clear FX2
  have FY2 := Lib.hid (FY.out.next hb19)
  clear FY
  have FY := FY2
  clear FY2
  have FM2 := Lib.hid (FM.out.next hb19)
  clear FM
  have FM := FM2
  clear FM2
  clear hb19
  rw [HAV.out]
  go_wp2_with fail
  refine (k_same FX.out FA.out hnm.out hnm.out rfl).mono ?_
  rintro e w20 ⟨rfl, hb20⟩
  have hBz := HB.out.size
  have HB2 := Lib.hid (HB.out.trans (hb20.mono hBz))
  clear HB hBz
  have HB := HB2
  clear HB2
  have HG2 := Lib.hid (HG.out.below hb20)
  clear HG
  have HG := HG2
  clear HG2
  have FA2 := Lib.hid (FA.out.next hb20)
  clear FA
  have FA := FA2
  clear FA2
  have FB2 := Lib.hid (FB.out.next hb20)
  clear FB
  have FB := FB2
  clear FB2
  have FX2 := Lib.hid (FX.out.next hb20)
  clear FX
  have FX := FX2
  clear FX2
  have FY2 := Lib.hid (FY.out.next hb20)
  clear FY
  have FY := FY2
  clear FY2
  have FM2 := Lib.hid (FM.out.next hb20)
  clear FM
  have FM := FM2
  clear FM2
  clear hb20
  go_wp2_with fail
  refine (k_same FY.out FB.out hnm'.out hnm'.out rfl).mono ?_
  rintro e w21 ⟨rfl, hb21⟩
  have hBz := HB.out.size
  have HB2 := Lib.hid (HB.out.trans (hb21.mono hBz))
  clear HB hBz
  have HB := HB2
  clear HB2
  have HG2 := Lib.hid (HG.out.below hb21)
  clear HG
  have HG := HG2
  clear HG2
  have FA2 := Lib.hid (FA.out.next hb21)
  clear FA
  have FA := FA2
  clear FA2
  have FB2 := Lib.hid (FB.out.next hb21)
  clear FB
  have FB := FB2
  clear FB2
  have FX2 := Lib.hid (FX.out.next hb21)
  clear FX
  have FX := FX2
  clear FX2
  have FY2 := Lib.hid (FY.out.next hb21)
  clear FY
  have FY := FY2
  clear FY2
  have FM2 := Lib.hid (FM.out.next hb21)
  clear FM
  have FM := FM2
  clear FM2
  clear hb21
  go_wp2
  go_ret
  exact ⟨rfl, HB.out⟩

set_option maxRecDepth 100000 in
set_option maxHeartbeats 8000000 in
theorem right_false_false (A A' : Option Addr) (n c n' c' : Nat) (xs ys : List Int) (v : Int) (hv bp ba : Bool) (w : World) (hfa : RI w w.heap.size A n xs) (hfb : RI w w.heap.size A' n' ys) (hnil : A = none → c = 0) (hnil' : A' = none → c' = 0) (hle : n ≤ 300) (hle' : n' ≤ 300) (hg : GlobOk w)
    (hrx : rightB xs = false) (hry : rightB ys = false) (hhv : hasB xs v = hv) (hpv : partB xs ys = bp) (hav : apartB xs ys = ba) (hbp : bp = false) (hba : ba = false) :
    Calls Tryd.prog 3 #[.slice A n c, .slice A' n' c', .int .i64 v] w fun e w' => e = .returned (.bool true) ∧ Below w.heap.size w w' := by
  have HRX := Lib.hid hrx
  have HRY := Lib.hid hry
  have HHV := Lib.hid hhv
  have HPV := Lib.hid hpv
  have HAV := Lib.hid hav
  have hnm : Hid (n ≤ maxLen) := Lib.hid (by unfold maxLen; omega)
  have hnm' : Hid (n' ≤ maxLen) := Lib.hid (by unfold maxLen; omega)
  have FA := Lib.hid hfa
  have FB := Lib.hid hfb
  have HG := Lib.hid hg
  have HB := Lib.hid (Below.refl w.heap.size w)
  clear hrx hry hhv hpv hav hfa hfb hg
  obtain ⟨i0, hi, hz0, hz1, hz2⟩ := info_parts int_info
  go_enter Tryd.func3, Tryd.ntmps3
  subst hbp
  subst hba
  go_wp2_with fail
  refine (awake_any _ HG.out).mono ?_
  rintro e w1 ⟨rfl, hb1⟩
  have hBz := HB.out.size
  have HB2 := Lib.hid (HB.out.trans (hb1.mono hBz))
  clear HB hBz
  have HB := HB2
  clear HB2
  have HG2 := Lib.hid (HG.out.below hb1)
  clear HG
  have HG := HG2
  clear HG2
  have FA2 := Lib.hid (FA.out.next hb1)
  clear FA
  have FA := FA2
  clear FA2
  have FB2 := Lib.hid (FB.out.next hb1)
  clear FB
  have FB := FB2
  clear FB2
  clear hb1
  go_wp2_with (at_builtin; refine wpList_append_RI _ rfl (.tmp 22) (.tmp 23) 22 rfl w1.heap.size 3 i0 (.int .i64 0) 8 Tryd.underlying22 hi hz0 hz1 hz2 rfl (.slice (some ⟨w1.heap.size, 0, none⟩) 0 0) 0 [] rfl (own_empty w1 _) w1.heap.size A n c _ rfl (FA.out.below (Below.alloc (Below.refl _ _) (Nat.le_refl _) _)) hnil (by unfold maxLen; omega) (by omega) (by simp) ?_; intro v2 w2 hown2 hg2; refine Hid.out ?_)
  refine Lib.hid ?_
  have hb2 : Below w1.heap.size w1 w2 := (Below.alloc (Below.refl _ _) (Nat.le_refl _) _).grown hg2 (by simp) (fun j hj => (Nat.le_of_eq (by simpa [Value.ownBlock] using hj)))
  rw [List.nil_append, Nat.zero_add] at hown2
  obtain ⟨A2, c2, rfl⟩ := own_form hown2
  have hBz := HB.out.size
  have HB2 := Lib.hid (HB.out.trans (hb2.mono hBz))
  clear HB hBz
  have HB := HB2
  clear HB2
  have HG2 := Lib.hid (HG.out.below hb2)
  clear HG
  have HG := HG2
  clear HG2
  have FA2 := Lib.hid (FA.out.next hb2)
  clear FA
  have FA := FA2
  clear FA2
  have FB2 := Lib.hid (FB.out.next hb2)
  clear FB
  have FB := FB2
  clear FB2
  clear hb2
  have FX := Lib.hid (RI.of_own hown2)
  clear hown2 hg2
  go_wp2_with (at_builtin; refine wpList_append_RI _ rfl (.tmp 25) (.tmp 26) 22 rfl w2.heap.size 3 i0 (.int .i64 0) 8 Tryd.underlying22 hi hz0 hz1 hz2 rfl (.slice (some ⟨w2.heap.size, 0, none⟩) 0 0) 0 [] rfl (own_empty w2 _) w2.heap.size A' n' c' _ rfl (FB.out.below (Below.alloc (Below.refl _ _) (Nat.le_refl _) _)) hnil' (by unfold maxLen; omega) (by omega) (by simp) ?_; intro v3 w3 hown3 hg3; refine Hid.out ?_)
  refine Lib.hid ?_
  have hb3 : Below w2.heap.size w2 w3 := (Below.alloc (Below.refl _ _) (Nat.le_refl _) _).grown hg3 (by simp) (fun j hj => (Nat.le_of_eq (by simpa [Value.ownBlock] using hj)))
  rw [List.nil_append, Nat.zero_add] at hown3
  obtain ⟨A3, c3, rfl⟩ := own_form hown3
  have hBz := HB.out.size
  have HB2 := Lib.hid (HB.out.trans (hb3.mono hBz))
  clear HB hBz
  have HB := HB2
  clear HB2
  have HG2 := Lib.hid (HG.out.below hb3)
  clear HG
  have HG := HG2
  clear HG2
  have FA2 := Lib.hid (FA.out.next hb3)
  clear FA
  have FA := FA2
  clear FA2
  have FB2 := Lib.hid (FB.out.next hb3)
  clear FB
  have FB := FB2
  clear FB2
  have FX2 := Lib.hid (FX.out.next hb3)
  clear FX
  have FX := FX2
  clear FX2
  clear hb3
  have FY := Lib.hid (RI.of_own hown3)
  clear hown3 hg3
  go_wp2_with fail
  refine (which_any 1 1 (.inr (.inl ⟨rfl, rfl⟩)) _ _ _ _ _ _ xs ys _ FA.out FB.out hnm.out hnm'.out).mono ?_
  rintro e w4 ⟨⟨A4, c4, hc4, rfl, hr4⟩, hb4⟩
  have hBz := HB.out.size
  have HB2 := Lib.hid (HB.out.trans (hb4.mono hBz))
  clear HB hBz
  have HB := HB2
  clear HB2
  have HG2 := Lib.hid (HG.out.below hb4)
  clear HG
  have HG := HG2
  clear HG2
  have FA2 := Lib.hid (FA.out.next hb4)
  clear FA
  have FA := FA2
  clear FA2
  have FB2 := Lib.hid (FB.out.next hb4)
  clear FB
  have FB := FB2
  clear FB2
  have FX2 := Lib.hid (FX.out.next hb4)
  clear FX
  have FX := FX2
  clear FX2
  have FY2 := Lib.hid (FY.out.next hb4)
  clear FY
  have FY := FY2
  clear FY2
  clear hb4
  have FM := Lib.hid hr4
  have FMc := Lib.hid hc4
  clear hr4 hc4
  go_wp2_with fail
  refine (k_refRight FA.out hnm.out HRX.out).mono ?_
  rintro e w5 ⟨rfl, hb5⟩
  have hBz := HB.out.size
  have HB2 := Lib.hid (HB.out.trans (hb5.mono hBz))
  clear HB hBz
  have HB := HB2
  clear HB2
  have HG2 := Lib.hid (HG.out.below hb5)
  clear HG
  have HG := HG2
  clear HG2
  have FA2 := Lib.hid (FA.out.next hb5)
  clear FA
  have FA := FA2
  clear FA2
  have FB2 := Lib.hid (FB.out.next hb5)
  clear FB
  have FB := FB2
  clear FB2
  have FX2 := Lib.hid (FX.out.next hb5)
  clear FX
  have FX := FX2
  clear FX2
  have FY2 := Lib.hid (FY.out.next hb5)
  clear FY
  have FY := FY2
  clear FY2
  have FM2 := Lib.hid (FM.out.next hb5)
  clear FM
  have FM := FM2
  clear FM2
  clear hb5
  go_wp2_with fail
  refine (k_right FX.out hnm.out HRX.out).mono ?_
  rintro e w6 ⟨rfl, hb6⟩
  have hBz := HB.out.size
  have HB2 := Lib.hid (HB.out.trans (hb6.mono hBz))
  clear HB hBz
  have HB := HB2
  clear HB2
  have HG2 := Lib.hid (HG.out.below hb6)
  clear HG
  have HG := HG2
  clear HG2
  have FA2 := Lib.hid (FA.out.next hb6)
  clear FA
  have FA := FA2
  clear FA2
  have FB2 := Lib.hid (FB.out.next hb6)
  clear FB
  have FB := FB2
  clear FB2
  have FX2 := Lib.hid (FX.out.next hb6)
  clear FX
  have FX := FX2
  clear FX2
  have FY2 := Lib.hid (FY.out.next hb6)
  clear FY
  have FY := FY2
  clear FY2
  have FM2 := Lib.hid (FM.out.next hb6)
  clear FM
  have FM := FM2
  clear FM2
  clear hb6
  go_wp2_with fail
  refine (k_refRight FA.out hnm.out HRX.out).mono ?_
  rintro e w7 ⟨rfl, hb7⟩
  have hBz := HB.out.size
  have HB2 := Lib.hid (HB.out.trans (hb7.mono hBz))
  clear HB hBz
  have HB := HB2
  clear HB2
  have HG2 := Lib.hid (HG.out.below hb7)
  clear HG
  have HG := HG2
  clear HG2
  have FA2 := Lib.hid (FA.out.next hb7)
  clear FA
  have FA := FA2
  clear FA2
  have FB2 := Lib.hid (FB.out.next hb7)
  clear FB
  have FB := FB2
  clear FB2
  have FX2 := Lib.hid (FX.out.next hb7)
  clear FX
  have FX := FX2
  clear FX2
  have FY2 := Lib.hid (FY.out.next hb7)
  clear FY
  have FY := FY2
  clear FY2
  have FM2 := Lib.hid (FM.out.next hb7)
  clear FM
  have FM := FM2
  clear FM2
  clear hb7
  go_wp2_with fail
  refine (join_ops _ _ _ _ _ _ xs ys _ FX.out FY.out hnm.out hnm'.out HG.out.tz (tz_lt HG.out)).mono ?_
  rintro e w8 ⟨⟨A8, c8, hc8, rfl, hr8⟩, hb8⟩
  have hBz := HB.out.size
  have HB2 := Lib.hid (HB.out.trans (hb8.mono hBz))
  clear HB hBz
  have HB := HB2
  clear HB2
  have HG2 := Lib.hid (HG.out.below hb8)
  clear HG
  have HG := HG2
  clear HG2
  have FA2 := Lib.hid (FA.out.next hb8)
  clear FA
  have FA := FA2
  clear FA2
  have FB2 := Lib.hid (FB.out.next hb8)
  clear FB
  have FB := FB2
  clear FB2
  have FX2 := Lib.hid (FX.out.next hb8)
  clear FX
  have FX := FX2
  clear FX2
  have FY2 := Lib.hid (FY.out.next hb8)
  clear FY
  have FY := FY2
  clear FY2
  have FM2 := Lib.hid (FM.out.next hb8)
  clear FM
  have FM := FM2
  clear FM2
  clear hb8
  have FJ := Lib.hid hr8
  have FJc := Lib.hid hc8
  clear hr8 hc8
  go_wp2_with fail
  refine (which_any 0 0 (.inl ⟨rfl, rfl⟩) _ _ _ _ _ _ xs ys _ FA.out FB.out hnm.out hnm'.out).mono ?_
  rintro e w9 ⟨⟨A9, c9, hc9, rfl, hr9⟩, hb9⟩
  have hBz := HB.out.size
  have HB2 := Lib.hid (HB.out.trans (hb9.mono hBz))
  clear HB hBz
  have HB := HB2
  clear HB2
  have HG2 := Lib.hid (HG.out.below hb9)
  clear HG
  have HG := HG2
  clear HG2
  have FA2 := Lib.hid (FA.out.next hb9)
  clear FA
  have FA := FA2
  clear FA2
  have FB2 := Lib.hid (FB.out.next hb9)
  clear FB
  have FB := FB2
  clear FB2
  have FX2 := Lib.hid (FX.out.next hb9)
  clear FX
  have FX := FX2
  clear FX2
  have FY2 := Lib.hid (FY.out.next hb9)
  clear FY
  have FY := FY2
  clear FY2
  have FM2 := Lib.hid (FM.out.next hb9)
  clear FM
  have FM := FM2
  clear FM2
  have FJ2 := Lib.hid (FJ.out.next hb9)
  clear FJ
  have FJ := FJ2
  clear FJ2
  clear hb9
  have FW := Lib.hid hr9
  have FWc := Lib.hid hc9
  clear hr9 hc9
  go_wp2_with fail
  refine (k_same FJ.out FW.out (ml_join xs ys) (ml_which 0 xs ys) rfl).mono ?_
  rintro e w10 ⟨rfl, hb10⟩
  have hBz := HB.out.size
  have HB2 := Lib.hid (HB.out.trans (hb10.mono hBz))
  clear HB hBz
  have HB := HB2
  clear HB2
  have HG2 := Lib.hid (HG.out.below hb10)
  clear HG
  have HG := HG2
  clear HG2
  have FA2 := Lib.hid (FA.out.next hb10)
  clear FA
  have FA := FA2
  clear FA2
  have FB2 := Lib.hid (FB.out.next hb10)
  clear FB
  have FB := FB2
  clear FB2
  have FX2 := Lib.hid (FX.out.next hb10)
  clear FX
  have FX := FX2
  clear FX2
  have FY2 := Lib.hid (FY.out.next hb10)
  clear FY
  have FY := FY2
  clear FY2
  have FM2 := Lib.hid (FM.out.next hb10)
  clear FM
  have FM := FM2
  clear FM2
  have FJ2 := Lib.hid (FJ.out.next hb10)
  clear FJ
  have FJ := FJ2
  clear FJ2
  have FW2 := Lib.hid (FW.out.next hb10)
  clear FW
  have FW := FW2
  clear FW2
  clear hb10
  clear FJ
  clear FW
  go_wp2_with fail
  refine (meet_ops _ _ _ _ _ _ xs ys _ FX.out FY.out hnm.out hnm'.out HG.out.tz (tz_lt HG.out)).mono ?_
  rintro e w11 ⟨⟨A11, c11, hc11, rfl, hr11⟩, hb11⟩
  have hBz := HB.out.size
  have HB2 := Lib.hid (HB.out.trans (hb11.mono hBz))
  clear HB hBz
  have HB := HB2
  clear HB2
  have HG2 := Lib.hid (HG.out.below hb11)
  clear HG
  have HG := HG2
  clear HG2
  have FA2 := Lib.hid (FA.out.next hb11)
  clear FA
  have FA := FA2
  clear FA2
  have FB2 := Lib.hid (FB.out.next hb11)
  clear FB
  have FB := FB2
  clear FB2
  have FX2 := Lib.hid (FX.out.next hb11)
  clear FX
  have FX := FX2
  clear FX2
  have FY2 := Lib.hid (FY.out.next hb11)
  clear FY
  have FY := FY2
  clear FY2
  have FM2 := Lib.hid (FM.out.next hb11)
  clear FM
  have FM := FM2
  clear FM2
  clear hb11
  have FJ := Lib.hid hr11
  have FJc := Lib.hid hc11
  clear hr11 hc11
  go_wp2_with fail
  refine (k_same FJ.out FM.out (ml_meet xs ys) (ml_which 1 xs ys) rfl).mono ?_
  rintro e w12 ⟨rfl, hb12⟩
  have hBz := HB.out.size
  have HB2 := Lib.hid (HB.out.trans (hb12.mono hBz))
  clear HB hBz
  have HB := HB2
  clear HB2
  have HG2 := Lib.hid (HG.out.below hb12)
  clear HG
  have HG := HG2
  clear HG2
  have FA2 := Lib.hid (FA.out.next hb12)
  clear FA
  have FA := FA2
  clear FA2
  have FB2 := Lib.hid (FB.out.next hb12)
  clear FB
  have FB := FB2
  clear FB2
  have FX2 := Lib.hid (FX.out.next hb12)
  clear FX
  have FX := FX2
  clear FX2
  have FY2 := Lib.hid (FY.out.next hb12)
  clear FY
  have FY := FY2
  clear FY2
  have FM2 := Lib.hid (FM.out.next hb12)
  clear FM
  have FM := FM2
  clear FM2
  have FJ2 := Lib.hid (FJ.out.next hb12)
  clear FJ
  have FJ := FJ2
  clear FJ2
  clear hb12
  clear FJ
  go_wp2_with fail
  refine (less_ops _ _ _ _ _ _ xs ys _ FX.out FY.out hnm.out hnm'.out HG.out.tz (tz_lt HG.out)).mono ?_
  rintro e w13 ⟨⟨A13, c13, hc13, rfl, hr13⟩, hb13⟩
  have hBz := HB.out.size
  have HB2 := Lib.hid (HB.out.trans (hb13.mono hBz))
  clear HB hBz
  have HB := HB2
  clear HB2
  have HG2 := Lib.hid (HG.out.below hb13)
  clear HG
  have HG := HG2
  clear HG2
  have FA2 := Lib.hid (FA.out.next hb13)
  clear FA
  have FA := FA2
  clear FA2
  have FB2 := Lib.hid (FB.out.next hb13)
  clear FB
  have FB := FB2
  clear FB2
  have FX2 := Lib.hid (FX.out.next hb13)
  clear FX
  have FX := FX2
  clear FX2
  have FY2 := Lib.hid (FY.out.next hb13)
  clear FY
  have FY := FY2
  clear FY2
  have FM2 := Lib.hid (FM.out.next hb13)
  clear FM
  have FM := FM2
  clear FM2
  clear hb13
  have FJ := Lib.hid hr13
  have FJc := Lib.hid hc13
  clear hr13 hc13
  go_wp2_with fail
  refine (which_any 2 2 (.inr (.inr ⟨rfl, rfl⟩)) _ _ _ _ _ _ xs ys _ FA.out FB.out hnm.out hnm'.out).mono ?_
  rintro e w14 ⟨⟨A14, c14, hc14, rfl, hr14⟩, hb14⟩
  have hBz := HB.out.size
  have HB2 := Lib.hid (HB.out.trans (hb14.mono hBz))
  clear HB hBz
  have HB := HB2
  clear HB2
  have HG2 := Lib.hid (HG.out.below hb14)
  clear HG
  have HG := HG2
  clear HG2
  have FA2 := Lib.hid (FA.out.next hb14)
  clear FA
  have FA := FA2
  clear FA2
  have FB2 := Lib.hid (FB.out.next hb14)
  clear FB
  have FB := FB2
  clear FB2
  have FX2 := Lib.hid (FX.out.next hb14)
  clear FX
  have FX := FX2
  clear FX2
  have FY2 := Lib.hid (FY.out.next hb14)
  clear FY
  have FY := FY2
  clear FY2
  have FM2 := Lib.hid (FM.out.next hb14)
  clear FM
  have FM := FM2
  clear FM2
  have FJ2 := Lib.hid (FJ.out.next hb14)
  clear FJ
  have FJ := FJ2
  clear FJ2
  clear hb14
  have FW := Lib.hid hr14
  have FWc := Lib.hid hc14
  clear hr14 hc14
  go_wp2_with fail
  refine (k_same FJ.out FW.out (ml_less xs ys) (ml_which 2 xs ys) rfl).mono ?_
  rintro e w15 ⟨rfl, hb15⟩
  have hBz := HB.out.size
  have HB2 := Lib.hid (HB.out.trans (hb15.mono hBz))
  clear HB hBz
  have HB := HB2
  clear HB2
  have HG2 := Lib.hid (HG.out.below hb15)
  clear HG
  have HG := HG2
  clear HG2
  have FA2 := Lib.hid (FA.out.next hb15)
  clear FA
  have FA := FA2
  clear FA2
  have FB2 := Lib.hid (FB.out.next hb15)
  clear FB
  have FB := FB2
  clear FB2
  have FX2 := Lib.hid (FX.out.next hb15)
  clear FX
  have FX := FX2
  clear FX2
  have FY2 := Lib.hid (FY.out.next hb15)
  clear FY
  have FY := FY2
  clear FY2
  have FM2 := Lib.hid (FM.out.next hb15)
  clear FM
  have FM := FM2
  clear FM2
  have FJ2 := Lib.hid (FJ.out.next hb15)
  clear FJ
  have FJ := FJ2
  clear FJ2
  have FW2 := Lib.hid (FW.out.next hb15)
  clear FW
  have FW := FW2
  clear FW2
  clear hb15
  clear FJ
  clear FW
  go_wp2_with fail
  refine (has_any _ _ _ xs v _ FX.out hnm.out).mono ?_
  rintro e w16 ⟨rfl, hb16⟩
  have hBz := HB.out.size
  have HB2 := Lib.hid (HB.out.trans (hb16.mono hBz))
  clear HB hBz
  have HB := HB2
  clear HB2
  have HG2 := Lib.hid (HG.out.below hb16)
  clear HG
  have HG := HG2
  clear HG2
  have FA2 := Lib.hid (FA.out.next hb16)
  clear FA
  have FA := FA2
  clear FA2
  have FB2 := Lib.hid (FB.out.next hb16)
  clear FB
  have FB := FB2
  clear FB2
  have FX2 := Lib.hid (FX.out.next hb16)
  clear FX
  have FX := FX2
  clear FX2
  have FY2 := Lib.hid (FY.out.next hb16)
  clear FY
  have FY := FY2
  clear FY2
  have FM2 := Lib.hid (FM.out.next hb16)
  clear FM
  have FM := FM2
  clear FM2
  clear hb16
  rw [HHV.out]
  go_wp2_with fail
  refine (k_refHas FA.out hnm.out).mono ?_
  rintro e w17 ⟨rfl, hb17⟩
  have hBz := HB.out.size
  have HB2 := Lib.hid (HB.out.trans (hb17.mono hBz))
  clear HB hBz
  have HB := HB2
  clear HB2
  have HG2 := Lib.hid (HG.out.below hb17)
  clear HG
  have HG := HG2
  clear HG2
  have FA2 := Lib.hid (FA.out.next hb17)
  clear FA
  have FA := FA2
  clear FA2
  have FB2 := Lib.hid (FB.out.next hb17)
  clear FB
  have FB := FB2
  clear FB2
  have FX2 := Lib.hid (FX.out.next hb17)
  clear FX
  have FX := FX2
  clear FX2
  have FY2 := Lib.hid (FY.out.next hb17)
  clear FY
  have FY := FY2
  clear FY2
  have FM2 := Lib.hid (FM.out.next hb17)
  clear FM
  have FM := FM2
  clear FM2
  clear hb17
  rw [HHV.out]
  go_wp2_with fail
  refine (part_any _ _ _ _ _ _ xs ys _ FX.out FY.out hnm.out hnm'.out).mono ?_
  rintro e w18 ⟨rfl, hb18⟩
  have hBz := HB.out.size
  have HB2 := Lib.hid (HB.out.trans (hb18.mono hBz))
  clear HB hBz
  have HB := HB2
  clear HB2
  have HG2 := Lib.hid (HG.out.below hb18)
  clear HG
  have HG := HG2
  clear HG2
  have FA2 := Lib.hid (FA.out.next hb18)
  clear FA
  have FA := FA2
  clear FA2
  have FB2 := Lib.hid (FB.out.next hb18)
  clear FB
  have FB := FB2
  clear FB2
  have FX2 := Lib.hid (FX.out.next hb18)
  clear FX
  have FX := FX2
  clear FX2
  have FY2 := Lib.hid (FY.out.next hb18)
  clear FY
  have FY := FY2
  clear FY2
  have FM2 := Lib.hid (FM.out.next hb18)
  clear FM
  have FM := FM2
  clear FM2
  clear hb18
  rw [HPV.out]
  go_wp2_with fail
  refine (apart_any _ _ _ _ _ _ xs ys _ FX.out FY.out hnm.out hnm'.out).mono ?_
  rintro e w19 ⟨rfl, hb19⟩
  have hBz := HB.out.size
  have HB2 := Lib.hid (HB.out.trans (hb19.mono hBz))
  clear HB hBz
  have HB := HB2
  clear HB2
  have HG2 := Lib.hid (HG.out.below hb19)
  clear HG
  have HG := HG2
  clear HG2
  have FA2 := Lib.hid (FA.out.next hb19)
  clear FA
  have FA := FA2
  clear FA2
  have FB2 := Lib.hid (FB.out.next hb19)
  clear FB
  have FB := FB2
  clear FB2
  have FX2 := Lib.hid (FX.out.next hb19)
  clear FX
  have FX := FX2
  clear FX2
  have FY2 := Lib.hid (FY.out.next hb19)
  clear FY
  have FY := FY2
  clear FY2
  have FM2 := Lib.hid (FM.out.next hb19)
  clear FM
  have FM := FM2
  clear FM2
  clear hb19
  rw [HAV.out]
  go_wp2_with fail
  refine (k_same FX.out FA.out hnm.out hnm.out rfl).mono ?_
  rintro e w20 ⟨rfl, hb20⟩
  have hBz := HB.out.size
  have HB2 := Lib.hid (HB.out.trans (hb20.mono hBz))
  clear HB hBz
  have HB := HB2
  clear HB2
  have HG2 := Lib.hid (HG.out.below hb20)
  clear HG
  have HG := HG2
  clear HG2
  have FA2 := Lib.hid (FA.out.next hb20)
  clear FA
  have FA := FA2
  clear FA2
  have FB2 := Lib.hid (FB.out.next hb20)
  clear FB
  have FB := FB2
  clear FB2
  have FX2 := Lib.hid (FX.out.next hb20)
  clear FX
  have FX := FX2
  clear FX2
  have FY2 := Lib.hid (FY.out.next hb20)
  clear FY
  have FY := FY2
  clear FY2
  have FM2 := Lib.hid (FM.out.next hb20)
  clear FM
  have FM := FM2
  clear FM2
  clear hb20
  go_wp2_with fail
  refine (k_same FY.out FB.out hnm'.out hnm'.out rfl).mono ?_
  rintro e w21 ⟨rfl, hb21⟩
  have hBz := HB.out.size
  have HB2 := Lib.hid (HB.out.trans (hb21.mono hBz))
  clear HB hBz
  have HB := HB2
  clear HB2
  have HG2 := Lib.hid (HG.out.below hb21)
  clear HG
  have HG := HG2
  clear HG2
  have FA2 := Lib.hid (FA.out.next hb21)
  clear FA
  have FA := FA2
  clear FA2
  have FB2 := Lib.hid (FB.out.next hb21)
  clear FB
  have FB := FB2
  clear FB2
  have FX2 := Lib.hid (FX.out.next hb21)
  clear FX
  have FX := FX2
  clear FX2
  have FY2 := Lib.hid (FY.out.next hb21)
  clear FY
  have FY := FY2
  clear FY2
  have FM2 := Lib.hid (FM.out.next hb21)
  clear FM
  have FM := FM2
  clear FM2
  clear hb21
  go_wp2
  go_ret
  exact ⟨rfl, HB.out⟩

theorem right_long (A A' : Option Addr) (n c n' c' : Nat) (v : Int) (w : World) (hg : GlobOk w) (hn : n ≤ maxLen) (hn' : n' ≤ maxLen) (hl : 300 < n ∨ (n ≤ 300 ∧ 300 < n')) :
    Calls Tryd.prog 3 #[.slice A n c, .slice A' n' c', .int .i64 v] w fun e w' => e = .returned (.bool true) ∧ Below w.heap.size w w' := by
  unfold maxLen at hn hn'
  rcases hl with hl | ⟨hl, hl'⟩
  · go_enter Tryd.func3, Tryd.ntmps3
    go_wp2_with fail
    refine (awake_any _ hg).mono ?_
    rintro e w1 ⟨rfl, hb1⟩
    go_wp2
    go_ret
    exact ⟨rfl, hb1⟩
  · go_enter Tryd.func3, Tryd.ntmps3
    go_wp2_with fail
    refine (awake_any _ hg).mono ?_
    rintro e w1 ⟨rfl, hb1⟩
    go_wp2
    go_ret
    exact ⟨rfl, hb1⟩

theorem beq_decide (a b : Nat) : (((a : Int)) == (b : Int)) = decide (a = b) := by
  rw [Bool.eq_iff_iff, beq_iff_eq, decide_eq_true_eq]; omega

/-- SetRight, whatever the input. -/
theorem setRight_walk (A A' : Option Addr) (n c n' c' : Nat) (xs ys : List Int) (v : Int) (w : World) (hfa : RI w w.heap.size A n xs) (hfb : RI w w.heap.size A' n' ys) (hnil : A = none → c = 0) (hnil' : A' = none → c' = 0) (hn : n ≤ maxLen) (hn' : n' ≤ maxLen) (hg : GlobOk w) :
    Calls Tryd.prog 3 #[.slice A n c, .slice A' n' c', .int .i64 v] w fun e w' => e = .returned (.bool true) ∧ Below w.heap.size w w' := by
  by_cases h1 : 300 < n
  · exact right_long A A' n c n' c' v w hg hn hn' (.inl h1)
  · by_cases h2 : 300 < n'
    · exact right_long A A' n c n' c' v w hg hn hn' (.inr ⟨by omega, h2⟩)
    · have hx : n ≤ 300 := by omega
      have hy : n' ≤ 300 := by omega
      have hp := part_length xs ys
      have ha := apart_length xs ys
      cases hrx : rightB xs with
      | false =>
        have e1 : partB xs ys = false := by rw [hp, hrx]; rfl
        have e2 : apartB xs ys = false := by rw [ha, hrx]; rfl
        cases hry : rightB ys with
        | false => exact right_false_false A A' n c n' c' xs ys v _ _ _ w hfa hfb hnil hnil' hx hy hg hrx hry rfl e1 e2 rfl rfl
        | true => exact right_false_true A A' n c n' c' xs ys v _ _ _ w hfa hfb hnil hnil' hx hy hg hrx hry rfl e1 e2 rfl rfl
      | true =>
        cases hry : rightB ys with
        | false =>
          have e1 : partB xs ys = false := by rw [hp, hrx, hry]; rfl
          have e2 : apartB xs ys = false := by rw [ha, hrx, hry]; rfl
          exact right_true_false A A' n c n' c' xs ys v _ _ _ w hfa hfb hnil hnil' hx hy hg hrx hry rfl e1 e2 rfl rfl
        | true =>
          have e1 : partB xs ys = decide ((meetL xs ys).length = n) := by rw [hp, hrx, hry, hfa.1]; rfl
          have e2 : apartB xs ys = decide ((meetL xs ys).length = 0) := by rw [ha, hrx, hry]; rfl
          exact right_true_true A A' n c n' c' xs ys v _ _ _ w hfa hfb hnil hnil' hx hy hg hrx hry rfl e1 e2 (beq_decide _ _) (beq_decide _ 0)

end Go.Proofs.YtgifhbjcelkjkaaDoor
