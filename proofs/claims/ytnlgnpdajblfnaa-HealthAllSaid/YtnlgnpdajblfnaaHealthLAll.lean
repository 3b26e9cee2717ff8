/- The statement HealthAll, as a walk over the contracts: of any list of things the call returns true. -/
import Derived.Test.YtnlgnpdajblfnaaHealthAwake
namespace Go.Proofs.Ytnlgnpdajblfnaa
open Go.RowKit

set_option maxRecDepth 100000 in
set_option maxHeartbeats 4000000 in
theorem healthAll_long (H : HealthOk) (A : Option Addr) (n c : Nat) (w : World) (h60 : 60 < n) (hn : n ≤ maxLen) (hG : Glob w) :
    Calls Try.prog 5 #[.slice A n c] w fun e w' => e = .returned (.bool true) ∧ Below w.heap.size w w' := by
  unfold maxLen at hn
  have HG := Lib.hid hG
  clear hG
  go_enter Try.func5, Try.ntmps5
  go_wp2_with fail
  refine (healthAwake_any H _ HG.out).mono ?_
  rintro e w1 ⟨rfl, hb1⟩
  have HB1 := Lib.hid hb1
  clear hb1
  go_wp2
  go_ret
  exact ⟨rfl, HB1.out⟩
set_option maxRecDepth 100000 in
set_option maxHeartbeats 4000000 in
theorem healthAll_none (H : HealthOk) (HGr : GraphOk) (A : Option Addr) (n c : Nat) (g : Gr) (w : World) (hg : GAsk w A n c g) (h60 : n ≤ 60) (hG : Glob w) (hr : rightG g = false) :
    Calls Try.prog 5 #[.slice A n c] w fun e w' => e = .returned (.bool true) ∧ Below w.heap.size w w' := by
  have FG := Lib.hid hg
  have HG := Lib.hid hG
  have HR := Lib.hid hr
  have HB := Lib.hid (Below.refl w.heap.size w)
  have h60d : decide (60 < (n : Int)) = false := by simp; omega
  clear hg hG hr
  go_enter Try.func5, Try.ntmps5
  go_wp2_with fail
  refine (healthAwake_any H _ HG.out).mono ?_
  rintro e w1 ⟨rfl, hb1⟩
  have hBz := HB.out.size
  have HB2 := Lib.hid (HB.out.trans (hb1.mono hBz))
  clear HB hBz
  have HB := HB2
  clear HB2
  have HG2 := Lib.hid (HG.out.next hb1)
  clear HG
  have HG := HG2
  clear HG2
  have FG2 := Lib.hid (FG.out.next hb1)
  clear FG
  have FG := FG2
  clear FG2
  clear hb1
  go_wp2_with fail
  refine (calls_bool (HGr.right _ _ _ _ _ FG.out HG.out) HR.out).mono ?_
  rintro e w2 ⟨rfl, hb2⟩
  have hBz := HB.out.size
  have HB2 := Lib.hid (HB.out.trans (hb2.mono hBz))
  clear HB hBz
  have HB := HB2
  clear HB2
  have HG2 := Lib.hid (HG.out.next hb2)
  clear HG
  have HG := HG2
  clear HG2
  have FG2 := Lib.hid (FG.out.next hb2)
  clear FG
  have FG := FG2
  clear FG2
  clear hb2
  go_wp2
  go_ret
  exact ⟨rfl, HB.out⟩

set_option maxRecDepth 100000 in
set_option maxHeartbeats 4000000 in
theorem healthAll_yes (H : HealthOk) (HGr : GraphOk) (A : Option Addr) (n c : Nat) (g : Gr) (w : World) (hg : GAsk w A n c g) (h60 : n ≤ 60) (hG : Glob w) (hr : rightG g = true) (L0 L1 L2 U0 W1 : List Int) (hnw : newL g = L0) (hd2 : setL g L0 0 2 = (L2, 0)) (hd1 : setL g L0 0 1 = (L1, 0)) (hu0 : belowL g L0 0 = U0) (hw2 : belowL g L2 1 = []) (hu1 : belowL g L1 0 = []) (hw1 : belowL g L1 1 = W1)
    (hi0 : ∀ x ∈ L0, I64 x) (hi1 : ∀ x ∈ L1, I64 x) (hi2 : ∀ x ∈ L2, I64 x) (n0 : L0.length = n) (n1 : L1.length = n) (n2 : L2.length = n) (n3 : U0.length = n) (n4 : W1.length = n) :
    Calls Try.prog 5 #[.slice A n c] w fun e w' => e = .returned (.bool true) ∧ Below w.heap.size w w' := by
  have FG := Lib.hid hg
  have HG := Lib.hid hG
  have HR := Lib.hid hr
  have HB := Lib.hid (Below.refl w.heap.size w)
  have h60d : decide (60 < (n : Int)) = false := by simp; omega
  have HNW := Lib.hid hnw
  have HD2 := Lib.hid hd2
  have HD1 := Lib.hid hd1
  have HU0 := Lib.hid hu0
  have HW2 := Lib.hid hw2
  have HU1 := Lib.hid hu1
  have HW1 := Lib.hid hw1
  have HI0 := Lib.hid hi0
  have HI1 := Lib.hid hi1
  have HI2 := Lib.hid hi2
  have q3 : ((U0.length : Int) == (n : Int)) = true := by simp; omega
  have q4 : ((W1.length : Int) == (n : Int)) = true := by simp; omega
  have m0 : L0.length ≤ 60 := by omega
  have m1 : L1.length ≤ 60 := by omega
  have m2 : L2.length ≤ 60 := by omega
  clear hg hG hr hnw hd2 hd1 hu0 hw2 hu1 hw1 hi0 hi1 hi2 n0 n1 n2 n3 n4
  go_enter Try.func5, Try.ntmps5
  go_wp2_with fail
  refine (healthAwake_any H _ HG.out).mono ?_
  rintro e w1 ⟨rfl, hb1⟩
  have hBz := HB.out.size
  have HB2 := Lib.hid (HB.out.trans (hb1.mono hBz))
  clear HB hBz
  have HB := HB2
  clear HB2
  have HG2 := Lib.hid (HG.out.next hb1)
  clear HG
  have HG := HG2
  clear HG2
  have FG2 := Lib.hid (FG.out.next hb1)
  clear FG
  have FG := FG2
  clear FG2
  clear hb1
  go_wp2_with fail
  refine (calls_bool (HGr.right _ _ _ _ _ FG.out HG.out) HR.out).mono ?_
  rintro e w2 ⟨rfl, hb2⟩
  have hBz := HB.out.size
  have HB2 := Lib.hid (HB.out.trans (hb2.mono hBz))
  clear HB hBz
  have HB := HB2
  clear HB2
  have HG2 := Lib.hid (HG.out.next hb2)
  clear HG
  have HG := HG2
  clear HG2
  have FG2 := Lib.hid (FG.out.next hb2)
  clear FG
  have FG := FG2
  clear FG2
  clear hb2
  go_wp2_with fail
  refine (calls_ipost (H.new _ _ _ _ _ FG.out HG.out) HNW.out).mono ?_
  rintro e w3 ⟨⟨A3, c3, rfl, hr3, hnil3, hc3⟩, hb3⟩
  have hBz := HB.out.size
  have HB2 := Lib.hid (HB.out.trans (hb3.mono hBz))
  clear HB hBz
  have HB := HB2
  clear HB2
  have HG2 := Lib.hid (HG.out.next hb3)
  clear HG
  have HG := HG2
  clear HG2
  have FG2 := Lib.hid (FG.out.next hb3)
  clear FG
  have FG := FG2
  clear FG2
  clear hb3
  have F1 := Lib.hid hr3
  have F1c := Lib.hid hc3
  have F1z := Lib.hid hnil3
  clear hr3 hc3 hnil3
  have F1L := Lib.hid (LAsk.mk F1.out F1z.out F1c.out (by omega) (HI0.out))
  clear F1c F1z
  clear F1
  go_wp2_with fail
  refine (calls_iepost (H.set _ _ _ _ _ _ _ _ 0 2 _ FG.out F1L.out ⟨by omega, by omega⟩ ⟨by omega, by omega⟩ HG.out) HD2.out).mono ?_
  rintro e w4 ⟨⟨A4, c4, rfl, hr4, hnil4, hc4⟩, hb4⟩
  have hBz := HB.out.size
  have HB2 := Lib.hid (HB.out.trans (hb4.mono hBz))
  clear HB hBz
  have HB := HB2
  clear HB2
  have HG2 := Lib.hid (HG.out.next hb4)
  clear HG
  have HG := HG2
  clear HG2
  have FG2 := Lib.hid (FG.out.next hb4)
  clear FG
  have FG := FG2
  clear FG2
  have F1L2 := Lib.hid (F1L.out.next hb4)
  clear F1L
  have F1L := F1L2
  clear F1L2
  clear hb4
  have F2 := Lib.hid hr4
  have F2c := Lib.hid hc4
  have F2z := Lib.hid hnil4
  clear hr4 hc4 hnil4
  have F2L := Lib.hid (LAsk.mk F2.out F2z.out F2c.out (by omega) (HI2.out))
  clear F2c F2z
  clear F2
  go_wp2_with fail
  refine (calls_iepost (H.set _ _ _ _ _ _ _ _ 0 1 _ FG.out F1L.out ⟨by omega, by omega⟩ ⟨by omega, by omega⟩ HG.out) HD1.out).mono ?_
  rintro e w5 ⟨⟨A5, c5, rfl, hr5, hnil5, hc5⟩, hb5⟩
  have hBz := HB.out.size
  have HB2 := Lib.hid (HB.out.trans (hb5.mono hBz))
  clear HB hBz
  have HB := HB2
  clear HB2
  have HG2 := Lib.hid (HG.out.next hb5)
  clear HG
  have HG := HG2
  clear HG2
  have FG2 := Lib.hid (FG.out.next hb5)
  clear FG
  have FG := FG2
  clear FG2
  have F1L2 := Lib.hid (F1L.out.next hb5)
  clear F1L
  have F1L := F1L2
  clear F1L2
  have F2L2 := Lib.hid (F2L.out.next hb5)
  clear F2L
  have F2L := F2L2
  clear F2L2
  clear hb5
  have F3 := Lib.hid hr5
  have F3c := Lib.hid hc5
  have F3z := Lib.hid hnil5
  clear hr5 hc5 hnil5
  have F3L := Lib.hid (LAsk.mk F3.out F3z.out F3c.out (by omega) (HI1.out))
  clear F3c F3z
  clear F3
  go_wp2_with fail
  refine (calls_ipost (H.usable _ _ _ _ _ _ _ _ _ FG.out F1L.out HG.out) HU0.out).mono ?_
  rintro e w6 ⟨⟨A6, c6, rfl, hr6, hnil6, hc6⟩, hb6⟩
  have hBz := HB.out.size
  have HB2 := Lib.hid (HB.out.trans (hb6.mono hBz))
  clear HB hBz
  have HB := HB2
  clear HB2
  have HG2 := Lib.hid (HG.out.next hb6)
  clear HG
  have HG := HG2
  clear HG2
  have FG2 := Lib.hid (FG.out.next hb6)
  clear FG
  have FG := FG2
  clear FG2
  have F1L2 := Lib.hid (F1L.out.next hb6)
  clear F1L
  have F1L := F1L2
  clear F1L2
  have F2L2 := Lib.hid (F2L.out.next hb6)
  clear F2L
  have F2L := F2L2
  clear F2L2
  have F3L2 := Lib.hid (F3L.out.next hb6)
  clear F3L
  have F3L := F3L2
  clear F3L2
  clear hb6
  have F4 := Lib.hid hr6
  have F4c := Lib.hid hc6
  have F4z := Lib.hid hnil6
  clear hr6 hc6 hnil6
  clear F4
  clear F1L
  clear F4c F4z
  go_wp2_with fail
  refine (calls_ipost (H.works _ _ _ _ _ _ _ _ _ FG.out F2L.out HG.out) HW2.out).mono ?_
  rintro e w7 ⟨⟨A7, c7, rfl, hr7, hnil7, hc7⟩, hb7⟩
  have hBz := HB.out.size
  have HB2 := Lib.hid (HB.out.trans (hb7.mono hBz))
  clear HB hBz
  have HB := HB2
  clear HB2
  have HG2 := Lib.hid (HG.out.next hb7)
  clear HG
  have HG := HG2
  clear HG2
  have FG2 := Lib.hid (FG.out.next hb7)
  clear FG
  have FG := FG2
  clear FG2
  have F2L2 := Lib.hid (F2L.out.next hb7)
  clear F2L
  have F2L := F2L2
  clear F2L2
  have F3L2 := Lib.hid (F3L.out.next hb7)
  clear F3L
  have F3L := F3L2
  clear F3L2
  clear hb7
  have F5 := Lib.hid hr7
  have F5c := Lib.hid hc7
  have F5z := Lib.hid hnil7
  clear hr7 hc7 hnil7
  clear F5
  clear F2L
  clear F5c F5z
  go_wp2_with fail
  refine (calls_ipost (H.usable _ _ _ _ _ _ _ _ _ FG.out F3L.out HG.out) HU1.out).mono ?_
  rintro e w8 ⟨⟨A8, c8, rfl, hr8, hnil8, hc8⟩, hb8⟩
  have hBz := HB.out.size
  have HB2 := Lib.hid (HB.out.trans (hb8.mono hBz))
  clear HB hBz
  have HB := HB2
  clear HB2
  have HG2 := Lib.hid (HG.out.next hb8)
  clear HG
  have HG := HG2
  clear HG2
  have FG2 := Lib.hid (FG.out.next hb8)
  clear FG
  have FG := FG2
  clear FG2
  have F3L2 := Lib.hid (F3L.out.next hb8)
  clear F3L
  have F3L := F3L2
  clear F3L2
  clear hb8
  have F6 := Lib.hid hr8
  have F6c := Lib.hid hc8
  have F6z := Lib.hid hnil8
  clear hr8 hc8 hnil8
  clear F6
  clear F6c F6z
  go_wp2_with fail
  refine (calls_ipost (H.works _ _ _ _ _ _ _ _ _ FG.out F3L.out HG.out) HW1.out).mono ?_
  rintro e w9 ⟨⟨A9, c9, rfl, hr9, hnil9, hc9⟩, hb9⟩
  have hBz := HB.out.size
  have HB2 := Lib.hid (HB.out.trans (hb9.mono hBz))
  clear HB hBz
  have HB := HB2
  clear HB2
  have HG2 := Lib.hid (HG.out.next hb9)
  clear HG
  have HG := HG2
  clear HG2
  have FG2 := Lib.hid (FG.out.next hb9)
  clear FG
  have FG := FG2
  clear FG2
  have F3L2 := Lib.hid (F3L.out.next hb9)
  clear F3L
  have F3L := F3L2
  clear F3L2
  clear hb9
  have F7 := Lib.hid hr9
  have F7c := Lib.hid hc9
  have F7z := Lib.hid hnil9
  clear hr9 hc9 hnil9
  clear F7
  clear F3L
  clear F7c F7z
  go_wp2
  go_ret
  exact ⟨rfl, HB.out⟩

theorem healthAll_walk (H : HealthOk) (HGr : GraphOk) (A : Option Addr) (n c : Nat) (g : Gr) (w : World) (hr : RG w w.heap.size A n g) (hnil : A = none → c = 0) (hnc : n ≤ c) (hn : n ≤ maxLen) (hG : Glob w) :
    Calls Try.prog 5 #[.slice A n c] w fun e w' => e = .returned (.bool true) ∧ Below w.heap.size w w' := by
  by_cases h60 : 60 < n
  · exact healthAll_long H A n c w h60 hn hG
  have hg : GAsk w A n c g := ⟨hr, hnil, hnc, by omega⟩
  cases hrg : rightG g with
  | false => exact healthAll_none H HGr A n c g w hg (by omega) hG hrg
  | true =>
    have hl := hr.len
    have hpos := (rightG_is hrg).pos
    have hnr := new_right hrg
    have hnl := new_len hrg
    have ht : ∀ x : Int, 0 ≤ x → x ≤ 2 → setL g (newL g) 0 x = ((newL g).set 0 x, 0) := fun x h0 h2 => setL_ok (k := 0) ⟨hnr, h0, h2⟩ (by omega)
    have r2 := rightH_set hnr (k := 0) (x := 2) (by omega) (by omega)
    have r1 := rightH_set hnr (k := 0) (x := 1) (by omega) (by omega)
    have a2 : hAt ((newL g).set 0 2) 0 = 2 := by rw [hAt_set (by omega), if_pos rfl]
    have a1 : hAt ((newL g).set 0 1) 0 = 1 := by rw [hAt_set (by omega), if_pos rfl]
    exact healthAll_yes H HGr A n c g w hg (by omega) hG hrg _ _ _ _ _ rfl (ht 2 (by omega) (by omega)) (ht 1 (by omega) (by omega)) rfl (below_none r2 (by omega)) (below_none r1 (by omega)) rfl
      (small_i64 (rightH_is hnr).2.2) (small_i64 (rightH_is r1).2.2) (small_i64 (rightH_is r2).2.2) (by omega) (by rw [List.length_set]; omega) (by rw [List.length_set]; omega)
      (by rw [below_all hnr (fun j hj => by rw [new_at hrg hj]; omega), hl]) (by rw [below_all r1 (fun j hj => by rw [hAt_set (by omega)]; split; omega; rw [new_at hrg hj]; omega), hl])

end Go.Proofs.Ytnlgnpdajblfnaa
