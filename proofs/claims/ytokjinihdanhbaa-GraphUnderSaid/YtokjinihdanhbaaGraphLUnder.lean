/- The statement GraphUnder, as a walk over the contracts: of any list of things and two numbers the call returns true. -/
import Derived.Test.YtokjinihdanhbaaGraphAwake
import Derived.Test.YtokjinihdanhbaaGraphLaws
namespace Go.Proofs.Ytokjinihdanhbaa
open Go.RowKit

set_option maxRecDepth 100000 in
set_option maxHeartbeats 4000000 in
theorem graphUnder_long (H : GraphOk) (A : Option Addr) (n c : Nat) (a b : Int) (w : World) (h60 : 60 < n) (hn : n ≤ maxLen) (hG : Glob w) :
    Calls Try.prog 4 #[.slice A n c, .int .i64 a, .int .i64 b] w fun e w' => e = .returned (.bool true) ∧ Below w.heap.size w w' := by
  unfold maxLen at hn
  have HG := Lib.hid hG
  clear hG
  go_enter Try.func4, Try.ntmps4
  go_wp2_with fail
  refine (graphAwake_any H _ HG.out).mono ?_
  rintro e w1 ⟨rfl, hb1⟩
  have HB1 := Lib.hid hb1
  clear hb1
  go_wp2
  go_ret
  exact ⟨rfl, HB1.out⟩
set_option maxRecDepth 100000 in
set_option maxHeartbeats 4000000 in
theorem graphUnder_none (H : GraphOk) (A : Option Addr) (n c : Nat) (g : Gr) (a b : Int) (w : World) (hg : GAsk w A n c g) (h60 : n ≤ 60) (hG : Glob w) (hr : rightG g = false) :
    Calls Try.prog 4 #[.slice A n c, .int .i64 a, .int .i64 b] w fun e w' => e = .returned (.bool true) ∧ Below w.heap.size w w' := by
  have FG := Lib.hid hg
  have HG := Lib.hid hG
  have HR := Lib.hid hr
  have HB := Lib.hid (Below.refl w.heap.size w)
  have h60d : decide (60 < (n : Int)) = false := by simp; omega
  clear hg hG hr
  go_enter Try.func4, Try.ntmps4
  go_wp2_with fail
  refine (graphAwake_any H _ HG.out).mono ?_
  rintro e w1 ⟨rfl, hb1⟩
  have hBz := HB.out.size
  have HB2 := Lib.hid (HB.out.trans (hb1.mono hBz))
  clear HB hBz
  have HB := HB2
  clear HB2
  have HG2 := Lib.hid (HG.out.next hb1)
  clear HG
  have HG := HG2
  clear HG2
  have FG2 := Lib.hid (FG.out.next hb1)
  clear FG
  have FG := FG2
  clear FG2
  clear hb1
  go_wp2_with fail
  refine (calls_bool (H.right _ _ _ _ _ FG.out HG.out) HR.out).mono ?_
  rintro e w2 ⟨rfl, hb2⟩
  have hBz := HB.out.size
  have HB2 := Lib.hid (HB.out.trans (hb2.mono hBz))
  clear HB hBz
  have HB := HB2
  clear HB2
  have HG2 := Lib.hid (HG.out.next hb2)
  clear HG
  have HG := HG2
  clear HG2
  have FG2 := Lib.hid (FG.out.next hb2)
  clear FG
  have FG := FG2
  clear FG2
  clear hb2
  go_wp2
  go_ret
  exact ⟨rfl, HB.out⟩
set_option maxRecDepth 100000 in
set_option maxHeartbeats 4000000 in
theorem graphUnder_a0 (H : GraphOk) (A : Option Addr) (n c : Nat) (g : Gr) (a b : Int) (w : World) (hg : GAsk w A n c g) (h60 : n ≤ 60) (hG : Glob w) (hr : rightG g = true) (h1 : a < 0) :
    Calls Try.prog 4 #[.slice A n c, .int .i64 a, .int .i64 b] w fun e w' => e = .returned (.bool true) ∧ Below w.heap.size w w' := by
  have FG := Lib.hid hg
  have HG := Lib.hid hG
  have HR := Lib.hid hr
  have HB := Lib.hid (Below.refl w.heap.size w)
  have h60d : decide (60 < (n : Int)) = false := by simp; omega
  clear hg hG hr
  go_enter Try.func4, Try.ntmps4
  go_wp2_with fail
  refine (graphAwake_any H _ HG.out).mono ?_
  rintro e w1 ⟨rfl, hb1⟩
  have hBz := HB.out.size
  have HB2 := Lib.hid (HB.out.trans (hb1.mono hBz))
  clear HB hBz
  have HB := HB2
  clear HB2
  have HG2 := Lib.hid (HG.out.next hb1)
  clear HG
  have HG := HG2
  clear HG2
  have FG2 := Lib.hid (FG.out.next hb1)
  clear FG
  have FG := FG2
  clear FG2
  clear hb1
  go_wp2_with fail
  refine (calls_bool (H.right _ _ _ _ _ FG.out HG.out) HR.out).mono ?_
  rintro e w2 ⟨rfl, hb2⟩
  have hBz := HB.out.size
  have HB2 := Lib.hid (HB.out.trans (hb2.mono hBz))
  clear HB hBz
  have HB := HB2
  clear HB2
  have HG2 := Lib.hid (HG.out.next hb2)
  clear HG
  have HG := HG2
  clear HG2
  have FG2 := Lib.hid (FG.out.next hb2)
  clear FG
  have FG := FG2
  clear FG2
  clear hb2
  go_wp2_with fail
  refine (H.under _ _ _ _ 0 _ FG.out (i64_small (k := 0) (by omega)) HG.out).mono ?_
  rintro e w3 ⟨⟨A3, c3, rfl, hr3, hnil3, hc3⟩, hb3⟩
  have hBz := HB.out.size
  have HB2 := Lib.hid (HB.out.trans (hb3.mono hBz))
  clear HB hBz
  have HB := HB2
  clear HB2
  have HG2 := Lib.hid (HG.out.next hb3)
  clear HG
  have HG := HG2
  clear HG2
  have FG2 := Lib.hid (FG.out.next hb3)
  clear FG
  have FG := FG2
  clear FG2
  clear hb3
  have F1 := Lib.hid hr3
  have F1c := Lib.hid hc3
  have F1z := Lib.hid hnil3
  clear hr3 hc3 hnil3
  have hz0 : (((underL g 0).length : Int) != (n : Int)) = false := by rw [under_zero_len HR.out, FG.out.reads.len]; simp
  go_wp2_with fail
  refine (calls_ipost (H.under _ _ _ _ (-1) _ FG.out ⟨by omega, by omega⟩ HG.out) (underL_none (.inl (by omega)))).mono ?_
  rintro e w4 ⟨⟨A4, c4, rfl, hr4, hnil4, hc4⟩, hb4⟩
  have hBz := HB.out.size
  have HB2 := Lib.hid (HB.out.trans (hb4.mono hBz))
  clear HB hBz
  have HB := HB2
  clear HB2
  have HG2 := Lib.hid (HG.out.next hb4)
  clear HG
  have HG := HG2
  clear HG2
  have FG2 := Lib.hid (FG.out.next hb4)
  clear FG
  have FG := FG2
  clear FG2
  have F12 := Lib.hid (F1.out.next hb4)
  clear F1
  have F1 := F12
  clear F12
  clear hb4
  have F2 := Lib.hid hr4
  have F2c := Lib.hid hc4
  have F2z := Lib.hid hnil4
  clear hr4 hc4 hnil4
  clear F2
  go_wp2_with fail
  refine (calls_ipost (H.above _ _ _ _ (n : Int) _ FG.out (i64_small (by omega)) HG.out) (aboveL_none (.inr (by rw [FG.out.reads.len]; omega)))).mono ?_
  rintro e w5 ⟨⟨A5, c5, rfl, hr5, hnil5, hc5⟩, hb5⟩
  have hBz := HB.out.size
  have HB2 := Lib.hid (HB.out.trans (hb5.mono hBz))
  clear HB hBz
  have HB := HB2
  clear HB2
  have HG2 := Lib.hid (HG.out.next hb5)
  clear HG
  have HG := HG2
  clear HG2
  have FG2 := Lib.hid (FG.out.next hb5)
  clear FG
  have FG := FG2
  clear FG2
  have F12 := Lib.hid (F1.out.next hb5)
  clear F1
  have F1 := F12
  clear F12
  clear hb5
  have F3 := Lib.hid hr5
  have F3c := Lib.hid hc5
  have F3z := Lib.hid hnil5
  clear hr5 hc5 hnil5
  clear F3
  clear F1
  clear F1c F1z F2c F2z F3c F3z
  have HL := Lib.hid FG.out.reads.len
  have HB0 := HB
  clear HB
  go_wp2
  go_loopw [8] (fun i wr => ∃ k : Nat, k ≤ n ∧ i = .int .i64 k ∧ Below w5.heap.size w5 wr) (fun i _ => n - (intOf i).toNat)
  case atStart => exact ⟨0, Nat.zero_le _, rfl, Below.refl _ _⟩
  case round =>
    obtain ⟨k, hk, rfl, hb⟩ := hrel
    have HB := Lib.hid hb
    have FGr := Lib.hid (FG.out.next hb)
    have HGr := Lib.hid (HG.out.next hb)
    clear hb
    by_cases hlt : k < n
    · have hkl : Hid (k < g.length) := Lib.hid (by rw [HL.out]; exact hlt)
      go_wp2_with fail
      refine (H.under _ _ _ _ (k : Int) _ FGr.out (i64_small (by omega)) HGr.out).mono ?_
      rintro e w1 ⟨⟨A1, c1, rfl, hr1, hnil1, hc1⟩, hb1⟩
      have hBz := HB.out.size
      have HB2 := Lib.hid (HB.out.trans (hb1.mono hBz))
      clear HB hBz
      have HB := HB2
      clear HB2
      have HGr2 := Lib.hid (HGr.out.next hb1)
      clear HGr
      have HGr := HGr2
      clear HGr2
      have FGr2 := Lib.hid (FGr.out.next hb1)
      clear FGr
      have FGr := FGr2
      clear FGr2
      clear hb1
      have F1 := Lib.hid hr1
      have F1c := Lib.hid hc1
      have F1z := Lib.hid hnil1
      clear hr1 hc1 hnil1
      have HB1 := HB
      clear HB
      go_wp2
      go_loopw [10] (fun i wr => ∃ j : Nat, j ≤ n ∧ i = .int .i64 j ∧ Below w1.heap.size w1 wr) (fun i _ => n - (intOf i).toNat)
      case atStart => exact ⟨0, Nat.zero_le _, rfl, Below.refl _ _⟩
      case round =>
        obtain ⟨j, hj, rfl, hb⟩ := hrel
        have HB := Lib.hid hb
        have FGs := Lib.hid (FGr.out.next hb)
        have HGs := Lib.hid (HGr.out.next hb)
        have F1s := Lib.hid (F1.out.next hb)
        clear hb
        by_cases hltj : j < n
        · have hjl : Hid (j < g.length) := Lib.hid (by rw [HL.out]; exact hltj)
          obtain ⟨o, ho⟩ : ∃ o, overG g k j = o := ⟨_, rfl⟩
          have HA1 := Lib.hid ((has_under HR.out hkl.out hjl.out).trans ho)
          have HA2 := Lib.hid ((has_above HR.out (n := k) hjl.out).trans ho)
          clear ho
          go_wp2_with fail
          refine (s_has F1s.out (ml300 (Nat.le_trans (underL_len _) (by omega))) HA1.out).mono ?_
          rintro e w1 ⟨rfl, hb1⟩
          have hBz := HB.out.size
          have HB2 := Lib.hid (HB.out.trans (hb1.mono hBz))
          clear HB hBz
          have HB := HB2
          clear HB2
          have HGs2 := Lib.hid (HGs.out.next hb1)
          clear HGs
          have HGs := HGs2
          clear HGs2
          have FGs2 := Lib.hid (FGs.out.next hb1)
          clear FGs
          have FGs := FGs2
          clear FGs2
          have F1s2 := Lib.hid (F1s.out.next hb1)
          clear F1s
          have F1s := F1s2
          clear F1s2
          clear hb1
          clear F1s
          go_wp2_with fail
          refine (H.above _ _ _ _ (j : Int) _ FGs.out (i64_small (by omega)) HGs.out).mono ?_
          rintro e w2 ⟨⟨A2, c2, rfl, hr2, hnil2, hc2⟩, hb2⟩
          have hBz := HB.out.size
          have HB2 := Lib.hid (HB.out.trans (hb2.mono hBz))
          clear HB hBz
          have HB := HB2
          clear HB2
          have HGs2 := Lib.hid (HGs.out.next hb2)
          clear HGs
          have HGs := HGs2
          clear HGs2
          have FGs2 := Lib.hid (FGs.out.next hb2)
          clear FGs
          have FGs := FGs2
          clear FGs2
          clear hb2
          have F2 := Lib.hid hr2
          have F2c := Lib.hid hc2
          have F2z := Lib.hid hnil2
          clear hr2 hc2 hnil2
          go_wp2_with fail
          refine (s_has F2.out (ml300 (Nat.le_trans (aboveL_len _) (by omega))) HA2.out).mono ?_
          rintro e w3 ⟨rfl, hb3⟩
          have hBz := HB.out.size
          have HB2 := Lib.hid (HB.out.trans (hb3.mono hBz))
          clear HB hBz
          have HB := HB2
          clear HB2
          have HGs2 := Lib.hid (HGs.out.next hb3)
          clear HGs
          have HGs := HGs2
          clear HGs2
          have FGs2 := Lib.hid (FGs.out.next hb3)
          clear FGs
          have FGs := FGs2
          clear FGs2
          have F22 := Lib.hid (F2.out.next hb3)
          clear F2
          have F2 := F22
          clear F22
          clear hb3
          clear F2
          have hne : (o != o) = false := by simp
          go_wp2
          go_roundw
          case rel => exact ⟨j + 1, by omega, by go_num, HB.out⟩
          case measure => simp [intOf]; omega
        · have HBB := Lib.hid (HB1.out.trans (HB.out.mono HB1.out.size))
          go_wp2
          go_roundw
          case rel => exact ⟨k + 1, by omega, by go_num, HBB.out⟩
          case measure => simp [intOf]; omega
    · have hkm : k = n := by omega
      subst hkm
      have HB2 := Lib.hid (HB0.out.trans (HB.out.mono HB0.out.size))
      clear HB HB0
      have HB := HB2
      clear HB2
      go_wp2
      go_ret
      exact ⟨rfl, HB.out⟩

set_option maxRecDepth 100000 in
set_option maxHeartbeats 4000000 in
theorem graphUnder_b0 (H : GraphOk) (A : Option Addr) (n c : Nat) (g : Gr) (a b : Int) (w : World) (hg : GAsk w A n c g) (h60 : n ≤ 60) (hG : Glob w) (hr : rightG g = true) (h1 : ¬ a < 0) (h2 : b < 0) :
    Calls Try.prog 4 #[.slice A n c, .int .i64 a, .int .i64 b] w fun e w' => e = .returned (.bool true) ∧ Below w.heap.size w w' := by
  have FG := Lib.hid hg
  have HG := Lib.hid hG
  have HR := Lib.hid hr
  have HB := Lib.hid (Below.refl w.heap.size w)
  have h60d : decide (60 < (n : Int)) = false := by simp; omega
  have h1d : decide (a < 0) = false := by simpa using h1
  clear hg hG hr
  go_enter Try.func4, Try.ntmps4
  go_wp2_with fail
  refine (graphAwake_any H _ HG.out).mono ?_
  rintro e w1 ⟨rfl, hb1⟩
  have hBz := HB.out.size
  have HB2 := Lib.hid (HB.out.trans (hb1.mono hBz))
  clear HB hBz
  have HB := HB2
  clear HB2
  have HG2 := Lib.hid (HG.out.next hb1)
  clear HG
  have HG := HG2
  clear HG2
  have FG2 := Lib.hid (FG.out.next hb1)
  clear FG
  have FG := FG2
  clear FG2
  clear hb1
  go_wp2_with fail
  refine (calls_bool (H.right _ _ _ _ _ FG.out HG.out) HR.out).mono ?_
  rintro e w2 ⟨rfl, hb2⟩
  have hBz := HB.out.size
  have HB2 := Lib.hid (HB.out.trans (hb2.mono hBz))
  clear HB hBz
  have HB := HB2
  clear HB2
  have HG2 := Lib.hid (HG.out.next hb2)
  clear HG
  have HG := HG2
  clear HG2
  have FG2 := Lib.hid (FG.out.next hb2)
  clear FG
  have FG := FG2
  clear FG2
  clear hb2
  go_wp2_with fail
  refine (H.under _ _ _ _ 0 _ FG.out (i64_small (k := 0) (by omega)) HG.out).mono ?_
  rintro e w3 ⟨⟨A3, c3, rfl, hr3, hnil3, hc3⟩, hb3⟩
  have hBz := HB.out.size
  have HB2 := Lib.hid (HB.out.trans (hb3.mono hBz))
  clear HB hBz
  have HB := HB2
  clear HB2
  have HG2 := Lib.hid (HG.out.next hb3)
  clear HG
  have HG := HG2
  clear HG2
  have FG2 := Lib.hid (FG.out.next hb3)
  clear FG
  have FG := FG2
  clear FG2
  clear hb3
  have F1 := Lib.hid hr3
  have F1c := Lib.hid hc3
  have F1z := Lib.hid hnil3
  clear hr3 hc3 hnil3
  have hz0 : (((underL g 0).length : Int) != (n : Int)) = false := by rw [under_zero_len HR.out, FG.out.reads.len]; simp
  go_wp2_with fail
  refine (calls_ipost (H.under _ _ _ _ (-1) _ FG.out ⟨by omega, by omega⟩ HG.out) (underL_none (.inl (by omega)))).mono ?_
  rintro e w4 ⟨⟨A4, c4, rfl, hr4, hnil4, hc4⟩, hb4⟩
  have hBz := HB.out.size
  have HB2 := Lib.hid (HB.out.trans (hb4.mono hBz))
  clear HB hBz
  have HB := HB2
  clear HB2
  have HG2 := Lib.hid (HG.out.next hb4)
  clear HG
  have HG := HG2
  clear HG2
  have FG2 := Lib.hid (FG.out.next hb4)
  clear FG
  have FG := FG2
  clear FG2
  have F12 := Lib.hid (F1.out.next hb4)
  clear F1
  have F1 := F12
  clear F12
  clear hb4
  have F2 := Lib.hid hr4
  have F2c := Lib.hid hc4
  have F2z := Lib.hid hnil4
  clear hr4 hc4 hnil4
  clear F2
  go_wp2_with fail
  refine (calls_ipost (H.above _ _ _ _ (n : Int) _ FG.out (i64_small (by omega)) HG.out) (aboveL_none (.inr (by rw [FG.out.reads.len]; omega)))).mono ?_
  rintro e w5 ⟨⟨A5, c5, rfl, hr5, hnil5, hc5⟩, hb5⟩
  have hBz := HB.out.size
  have HB2 := Lib.hid (HB.out.trans (hb5.mono hBz))
  clear HB hBz
  have HB := HB2
  clear HB2
  have HG2 := Lib.hid (HG.out.next hb5)
  clear HG
  have HG := HG2
  clear HG2
  have FG2 := Lib.hid (FG.out.next hb5)
  clear FG
  have FG := FG2
  clear FG2
  have F12 := Lib.hid (F1.out.next hb5)
  clear F1
  have F1 := F12
  clear F12
  clear hb5
  have F3 := Lib.hid hr5
  have F3c := Lib.hid hc5
  have F3z := Lib.hid hnil5
  clear hr5 hc5 hnil5
  clear F3
  clear F1
  clear F1c F1z F2c F2z F3c F3z
  have HL := Lib.hid FG.out.reads.len
  have HB0 := HB
  clear HB
  go_wp2
  go_loopw [8] (fun i wr => ∃ k : Nat, k ≤ n ∧ i = .int .i64 k ∧ Below w5.heap.size w5 wr) (fun i _ => n - (intOf i).toNat)
  case atStart => exact ⟨0, Nat.zero_le _, rfl, Below.refl _ _⟩
  case round =>
    obtain ⟨k, hk, rfl, hb⟩ := hrel
    have HB := Lib.hid hb
    have FGr := Lib.hid (FG.out.next hb)
    have HGr := Lib.hid (HG.out.next hb)
    clear hb
    by_cases hlt : k < n
    · have hkl : Hid (k < g.length) := Lib.hid (by rw [HL.out]; exact hlt)
      go_wp2_with fail
      refine (H.under _ _ _ _ (k : Int) _ FGr.out (i64_small (by omega)) HGr.out).mono ?_
      rintro e w1 ⟨⟨A1, c1, rfl, hr1, hnil1, hc1⟩, hb1⟩
      have hBz := HB.out.size
      have HB2 := Lib.hid (HB.out.trans (hb1.mono hBz))
      clear HB hBz
      have HB := HB2
      clear HB2
      have HGr2 := Lib.hid (HGr.out.next hb1)
      clear HGr
      have HGr := HGr2
      clear HGr2
      have FGr2 := Lib.hid (FGr.out.next hb1)
      clear FGr
      have FGr := FGr2
      clear FGr2
      clear hb1
      have F1 := Lib.hid hr1
      have F1c := Lib.hid hc1
      have F1z := Lib.hid hnil1
      clear hr1 hc1 hnil1
      have HB1 := HB
      clear HB
      go_wp2
      go_loopw [10] (fun i wr => ∃ j : Nat, j ≤ n ∧ i = .int .i64 j ∧ Below w1.heap.size w1 wr) (fun i _ => n - (intOf i).toNat)
      case atStart => exact ⟨0, Nat.zero_le _, rfl, Below.refl _ _⟩
      case round =>
        obtain ⟨j, hj, rfl, hb⟩ := hrel
        have HB := Lib.hid hb
        have FGs := Lib.hid (FGr.out.next hb)
        have HGs := Lib.hid (HGr.out.next hb)
        have F1s := Lib.hid (F1.out.next hb)
        clear hb
        by_cases hltj : j < n
        · have hjl : Hid (j < g.length) := Lib.hid (by rw [HL.out]; exact hltj)
          obtain ⟨o, ho⟩ : ∃ o, overG g k j = o := ⟨_, rfl⟩
          have HA1 := Lib.hid ((has_under HR.out hkl.out hjl.out).trans ho)
          have HA2 := Lib.hid ((has_above HR.out (n := k) hjl.out).trans ho)
          clear ho
          go_wp2_with fail
          refine (s_has F1s.out (ml300 (Nat.le_trans (underL_len _) (by omega))) HA1.out).mono ?_
          rintro e w1 ⟨rfl, hb1⟩
          have hBz := HB.out.size
          have HB2 := Lib.hid (HB.out.trans (hb1.mono hBz))
          clear HB hBz
          have HB := HB2
          clear HB2
          have HGs2 := Lib.hid (HGs.out.next hb1)
          clear HGs
          have HGs := HGs2
          clear HGs2
          have FGs2 := Lib.hid (FGs.out.next hb1)
          clear FGs
          have FGs := FGs2
          clear FGs2
          have F1s2 := Lib.hid (F1s.out.next hb1)
          clear F1s
          have F1s := F1s2
          clear F1s2
          clear hb1
          clear F1s
          go_wp2_with fail
          refine (H.above _ _ _ _ (j : Int) _ FGs.out (i64_small (by omega)) HGs.out).mono ?_
          rintro e w2 ⟨⟨A2, c2, rfl, hr2, hnil2, hc2⟩, hb2⟩
          have hBz := HB.out.size
          have HB2 := Lib.hid (HB.out.trans (hb2.mono hBz))
          clear HB hBz
          have HB := HB2
          clear HB2
          have HGs2 := Lib.hid (HGs.out.next hb2)
          clear HGs
          have HGs := HGs2
          clear HGs2
          have FGs2 := Lib.hid (FGs.out.next hb2)
          clear FGs
          have FGs := FGs2
          clear FGs2
          clear hb2
          have F2 := Lib.hid hr2
          have F2c := Lib.hid hc2
          have F2z := Lib.hid hnil2
          clear hr2 hc2 hnil2
          go_wp2_with fail
          refine (s_has F2.out (ml300 (Nat.le_trans (aboveL_len _) (by omega))) HA2.out).mono ?_
          rintro e w3 ⟨rfl, hb3⟩
          have hBz := HB.out.size
          have HB2 := Lib.hid (HB.out.trans (hb3.mono hBz))
          clear HB hBz
          have HB := HB2
          clear HB2
          have HGs2 := Lib.hid (HGs.out.next hb3)
          clear HGs
          have HGs := HGs2
          clear HGs2
          have FGs2 := Lib.hid (FGs.out.next hb3)
          clear FGs
          have FGs := FGs2
          clear FGs2
          have F22 := Lib.hid (F2.out.next hb3)
          clear F2
          have F2 := F22
          clear F22
          clear hb3
          clear F2
          have hne : (o != o) = false := by simp
          go_wp2
          go_roundw
          case rel => exact ⟨j + 1, by omega, by go_num, HB.out⟩
          case measure => simp [intOf]; omega
        · have HBB := Lib.hid (HB1.out.trans (HB.out.mono HB1.out.size))
          go_wp2
          go_roundw
          case rel => exact ⟨k + 1, by omega, by go_num, HBB.out⟩
          case measure => simp [intOf]; omega
    · have hkm : k = n := by omega
      subst hkm
      have HB2 := Lib.hid (HB0.out.trans (HB.out.mono HB0.out.size))
      clear HB HB0
      have HB := HB2
      clear HB2
      go_wp2
      go_ret
      exact ⟨rfl, HB.out⟩

set_option maxRecDepth 100000 in
set_option maxHeartbeats 4000000 in
theorem graphUnder_a9 (H : GraphOk) (A : Option Addr) (n c : Nat) (g : Gr) (a b : Int) (w : World) (hg : GAsk w A n c g) (h60 : n ≤ 60) (hG : Glob w) (hr : rightG g = true) (h1 : ¬ a < 0) (h2 : ¬ b < 0) (h3 : (n : Int) ≤ a) :
    Calls Try.prog 4 #[.slice A n c, .int .i64 a, .int .i64 b] w fun e w' => e = .returned (.bool true) ∧ Below w.heap.size w w' := by
  have FG := Lib.hid hg
  have HG := Lib.hid hG
  have HR := Lib.hid hr
  have HB := Lib.hid (Below.refl w.heap.size w)
  have h60d : decide (60 < (n : Int)) = false := by simp; omega
  have h1d : decide (a < 0) = false := by simpa using h1
  have h2d : decide (b < 0) = false := by simpa using h2
  clear hg hG hr
  go_enter Try.func4, Try.ntmps4
  go_wp2_with fail
  refine (graphAwake_any H _ HG.out).mono ?_
  rintro e w1 ⟨rfl, hb1⟩
  have hBz := HB.out.size
  have HB2 := Lib.hid (HB.out.trans (hb1.mono hBz))
  clear HB hBz
  have HB := HB2
  clear HB2
  have HG2 := Lib.hid (HG.out.next hb1)
  clear HG
  have HG := HG2
  clear HG2
  have FG2 := Lib.hid (FG.out.next hb1)
  clear FG
  have FG := FG2
  clear FG2
  clear hb1
  go_wp2_with fail
  refine (calls_bool (H.right _ _ _ _ _ FG.out HG.out) HR.out).mono ?_
  rintro e w2 ⟨rfl, hb2⟩
  have hBz := HB.out.size
  have HB2 := Lib.hid (HB.out.trans (hb2.mono hBz))
  clear HB hBz
  have HB := HB2
  clear HB2
  have HG2 := Lib.hid (HG.out.next hb2)
  clear HG
  have HG := HG2
  clear HG2
  have FG2 := Lib.hid (FG.out.next hb2)
  clear FG
  have FG := FG2
  clear FG2
  clear hb2
  go_wp2_with fail
  refine (H.under _ _ _ _ 0 _ FG.out (i64_small (k := 0) (by omega)) HG.out).mono ?_
  rintro e w3 ⟨⟨A3, c3, rfl, hr3, hnil3, hc3⟩, hb3⟩
  have hBz := HB.out.size
  have HB2 := Lib.hid (HB.out.trans (hb3.mono hBz))
  clear HB hBz
  have HB := HB2
  clear HB2
  have HG2 := Lib.hid (HG.out.next hb3)
  clear HG
  have HG := HG2
  clear HG2
  have FG2 := Lib.hid (FG.out.next hb3)
  clear FG
  have FG := FG2
  clear FG2
  clear hb3
  have F1 := Lib.hid hr3
  have F1c := Lib.hid hc3
  have F1z := Lib.hid hnil3
  clear hr3 hc3 hnil3
  have hz0 : (((underL g 0).length : Int) != (n : Int)) = false := by rw [under_zero_len HR.out, FG.out.reads.len]; simp
  go_wp2_with fail
  refine (calls_ipost (H.under _ _ _ _ (-1) _ FG.out ⟨by omega, by omega⟩ HG.out) (underL_none (.inl (by omega)))).mono ?_
  rintro e w4 ⟨⟨A4, c4, rfl, hr4, hnil4, hc4⟩, hb4⟩
  have hBz := HB.out.size
  have HB2 := Lib.hid (HB.out.trans (hb4.mono hBz))
  clear HB hBz
  have HB := HB2
  clear HB2
  have HG2 := Lib.hid (HG.out.next hb4)
  clear HG
  have HG := HG2
  clear HG2
  have FG2 := Lib.hid (FG.out.next hb4)
  clear FG
  have FG := FG2
  clear FG2
  have F12 := Lib.hid (F1.out.next hb4)
  clear F1
  have F1 := F12
  clear F12
  clear hb4
  have F2 := Lib.hid hr4
  have F2c := Lib.hid hc4
  have F2z := Lib.hid hnil4
  clear hr4 hc4 hnil4
  clear F2
  go_wp2_with fail
  refine (calls_ipost (H.above _ _ _ _ (n : Int) _ FG.out (i64_small (by omega)) HG.out) (aboveL_none (.inr (by rw [FG.out.reads.len]; omega)))).mono ?_
  rintro e w5 ⟨⟨A5, c5, rfl, hr5, hnil5, hc5⟩, hb5⟩
  have hBz := HB.out.size
  have HB2 := Lib.hid (HB.out.trans (hb5.mono hBz))
  clear HB hBz
  have HB := HB2
  clear HB2
  have HG2 := Lib.hid (HG.out.next hb5)
  clear HG
  have HG := HG2
  clear HG2
  have FG2 := Lib.hid (FG.out.next hb5)
  clear FG
  have FG := FG2
  clear FG2
  have F12 := Lib.hid (F1.out.next hb5)
  clear F1
  have F1 := F12
  clear F12
  clear hb5
  have F3 := Lib.hid hr5
  have F3c := Lib.hid hc5
  have F3z := Lib.hid hnil5
  clear hr5 hc5 hnil5
  clear F3
  clear F1
  clear F1c F1z F2c F2z F3c F3z
  have HL := Lib.hid FG.out.reads.len
  have HB0 := HB
  clear HB
  go_wp2
  go_loopw [8] (fun i wr => ∃ k : Nat, k ≤ n ∧ i = .int .i64 k ∧ Below w5.heap.size w5 wr) (fun i _ => n - (intOf i).toNat)
  case atStart => exact ⟨0, Nat.zero_le _, rfl, Below.refl _ _⟩
  case round =>
    obtain ⟨k, hk, rfl, hb⟩ := hrel
    have HB := Lib.hid hb
    have FGr := Lib.hid (FG.out.next hb)
    have HGr := Lib.hid (HG.out.next hb)
    clear hb
    by_cases hlt : k < n
    · have hkl : Hid (k < g.length) := Lib.hid (by rw [HL.out]; exact hlt)
      go_wp2_with fail
      refine (H.under _ _ _ _ (k : Int) _ FGr.out (i64_small (by omega)) HGr.out).mono ?_
      rintro e w1 ⟨⟨A1, c1, rfl, hr1, hnil1, hc1⟩, hb1⟩
      have hBz := HB.out.size
      have HB2 := Lib.hid (HB.out.trans (hb1.mono hBz))
      clear HB hBz
      have HB := HB2
      clear HB2
      have HGr2 := Lib.hid (HGr.out.next hb1)
      clear HGr
      have HGr := HGr2
      clear HGr2
      have FGr2 := Lib.hid (FGr.out.next hb1)
      clear FGr
      have FGr := FGr2
      clear FGr2
      clear hb1
      have F1 := Lib.hid hr1
      have F1c := Lib.hid hc1
      have F1z := Lib.hid hnil1
      clear hr1 hc1 hnil1
      have HB1 := HB
      clear HB
      go_wp2
      go_loopw [10] (fun i wr => ∃ j : Nat, j ≤ n ∧ i = .int .i64 j ∧ Below w1.heap.size w1 wr) (fun i _ => n - (intOf i).toNat)
      case atStart => exact ⟨0, Nat.zero_le _, rfl, Below.refl _ _⟩
      case round =>
        obtain ⟨j, hj, rfl, hb⟩ := hrel
        have HB := Lib.hid hb
        have FGs := Lib.hid (FGr.out.next hb)
        have HGs := Lib.hid (HGr.out.next hb)
        have F1s := Lib.hid (F1.out.next hb)
        clear hb
        by_cases hltj : j < n
        · have hjl : Hid (j < g.length) := Lib.hid (by rw [HL.out]; exact hltj)
          obtain ⟨o, ho⟩ : ∃ o, overG g k j = o := ⟨_, rfl⟩
          have HA1 := Lib.hid ((has_under HR.out hkl.out hjl.out).trans ho)
          have HA2 := Lib.hid ((has_above HR.out (n := k) hjl.out).trans ho)
          clear ho
          go_wp2_with fail
          refine (s_has F1s.out (ml300 (Nat.le_trans (underL_len _) (by omega))) HA1.out).mono ?_
          rintro e w1 ⟨rfl, hb1⟩
          have hBz := HB.out.size
          have HB2 := Lib.hid (HB.out.trans (hb1.mono hBz))
          clear HB hBz
          have HB := HB2
          clear HB2
          have HGs2 := Lib.hid (HGs.out.next hb1)
          clear HGs
          have HGs := HGs2
          clear HGs2
          have FGs2 := Lib.hid (FGs.out.next hb1)
          clear FGs
          have FGs := FGs2
          clear FGs2
          have F1s2 := Lib.hid (F1s.out.next hb1)
          clear F1s
          have F1s := F1s2
          clear F1s2
          clear hb1
          clear F1s
          go_wp2_with fail
          refine (H.above _ _ _ _ (j : Int) _ FGs.out (i64_small (by omega)) HGs.out).mono ?_
          rintro e w2 ⟨⟨A2, c2, rfl, hr2, hnil2, hc2⟩, hb2⟩
          have hBz := HB.out.size
          have HB2 := Lib.hid (HB.out.trans (hb2.mono hBz))
          clear HB hBz
          have HB := HB2
          clear HB2
          have HGs2 := Lib.hid (HGs.out.next hb2)
          clear HGs
          have HGs := HGs2
          clear HGs2
          have FGs2 := Lib.hid (FGs.out.next hb2)
          clear FGs
          have FGs := FGs2
          clear FGs2
          clear hb2
          have F2 := Lib.hid hr2
          have F2c := Lib.hid hc2
          have F2z := Lib.hid hnil2
          clear hr2 hc2 hnil2
          go_wp2_with fail
          refine (s_has F2.out (ml300 (Nat.le_trans (aboveL_len _) (by omega))) HA2.out).mono ?_
          rintro e w3 ⟨rfl, hb3⟩
          have hBz := HB.out.size
          have HB2 := Lib.hid (HB.out.trans (hb3.mono hBz))
          clear HB hBz
          have HB := HB2
          clear HB2
          have HGs2 := Lib.hid (HGs.out.next hb3)
          clear HGs
          have HGs := HGs2
          clear HGs2
          have FGs2 := Lib.hid (FGs.out.next hb3)
          clear FGs
          have FGs := FGs2
          clear FGs2
          have F22 := Lib.hid (F2.out.next hb3)
          clear F2
          have F2 := F22
          clear F22
          clear hb3
          clear F2
          have hne : (o != o) = false := by simp
          go_wp2
          go_roundw
          case rel => exact ⟨j + 1, by omega, by go_num, HB.out⟩
          case measure => simp [intOf]; omega
        · have HBB := Lib.hid (HB1.out.trans (HB.out.mono HB1.out.size))
          go_wp2
          go_roundw
          case rel => exact ⟨k + 1, by omega, by go_num, HBB.out⟩
          case measure => simp [intOf]; omega
    · have hkm : k = n := by omega
      subst hkm
      have HB2 := Lib.hid (HB0.out.trans (HB.out.mono HB0.out.size))
      clear HB HB0
      have HB := HB2
      clear HB2
      go_wp2
      go_ret
      exact ⟨rfl, HB.out⟩

set_option maxRecDepth 100000 in
set_option maxHeartbeats 4000000 in
theorem graphUnder_b9 (H : GraphOk) (A : Option Addr) (n c : Nat) (g : Gr) (a b : Int) (w : World) (hg : GAsk w A n c g) (h60 : n ≤ 60) (hG : Glob w) (hr : rightG g = true) (h1 : ¬ a < 0) (h2 : ¬ b < 0) (h3 : ¬ (n : Int) ≤ a) (h4 : (n : Int) ≤ b) :
    Calls Try.prog 4 #[.slice A n c, .int .i64 a, .int .i64 b] w fun e w' => e = .returned (.bool true) ∧ Below w.heap.size w w' := by
  have FG := Lib.hid hg
  have HG := Lib.hid hG
  have HR := Lib.hid hr
  have HB := Lib.hid (Below.refl w.heap.size w)
  have h60d : decide (60 < (n : Int)) = false := by simp; omega
  have h1d : decide (a < 0) = false := by simpa using h1
  have h2d : decide (b < 0) = false := by simpa using h2
  have h3d : decide ((n : Int) ≤ a) = false := by simpa using h3
  clear hg hG hr
  go_enter Try.func4, Try.ntmps4
  go_wp2_with fail
  refine (graphAwake_any H _ HG.out).mono ?_
  rintro e w1 ⟨rfl, hb1⟩
  have hBz := HB.out.size
  have HB2 := Lib.hid (HB.out.trans (hb1.mono hBz))
  clear HB hBz
  have HB := HB2
  clear HB2
  have HG2 := Lib.hid (HG.out.next hb1)
  clear HG
  have HG := HG2
  clear HG2
  have FG2 := Lib.hid (FG.out.next hb1)
  clear FG
  have FG := FG2
  clear FG2
  clear hb1
  go_wp2_with fail
  refine (calls_bool (H.right _ _ _ _ _ FG.out HG.out) HR.out).mono ?_
  rintro e w2 ⟨rfl, hb2⟩
  have hBz := HB.out.size
  have HB2 := Lib.hid (HB.out.trans (hb2.mono hBz))
  clear HB hBz
  have HB := HB2
  clear HB2
  have HG2 := Lib.hid (HG.out.next hb2)
  clear HG
  have HG := HG2
  clear HG2
  have FG2 := Lib.hid (FG.out.next hb2)
  clear FG
  have FG := FG2
  clear FG2
  clear hb2
  go_wp2_with fail
  refine (H.under _ _ _ _ 0 _ FG.out (i64_small (k := 0) (by omega)) HG.out).mono ?_
  rintro e w3 ⟨⟨A3, c3, rfl, hr3, hnil3, hc3⟩, hb3⟩
  have hBz := HB.out.size
  have HB2 := Lib.hid (HB.out.trans (hb3.mono hBz))
  clear HB hBz
  have HB := HB2
  clear HB2
  have HG2 := Lib.hid (HG.out.next hb3)
  clear HG
  have HG := HG2
  clear HG2
  have FG2 := Lib.hid (FG.out.next hb3)
  clear FG
  have FG := FG2
  clear FG2
  clear hb3
  have F1 := Lib.hid hr3
  have F1c := Lib.hid hc3
  have F1z := Lib.hid hnil3
  clear hr3 hc3 hnil3
  have hz0 : (((underL g 0).length : Int) != (n : Int)) = false := by rw [under_zero_len HR.out, FG.out.reads.len]; simp
  go_wp2_with fail
  refine (calls_ipost (H.under _ _ _ _ (-1) _ FG.out ⟨by omega, by omega⟩ HG.out) (underL_none (.inl (by omega)))).mono ?_
  rintro e w4 ⟨⟨A4, c4, rfl, hr4, hnil4, hc4⟩, hb4⟩
  have hBz := HB.out.size
  have HB2 := Lib.hid (HB.out.trans (hb4.mono hBz))
  clear HB hBz
  have HB := HB2
  clear HB2
  have HG2 := Lib.hid (HG.out.next hb4)
  clear HG
  have HG := HG2
  clear HG2
  have FG2 := Lib.hid (FG.out.next hb4)
  clear FG
  have FG := FG2
  clear FG2
  have F12 := Lib.hid (F1.out.next hb4)
  clear F1
  have F1 := F12
  clear F12
  clear hb4
  have F2 := Lib.hid hr4
  have F2c := Lib.hid hc4
  have F2z := Lib.hid hnil4
  clear hr4 hc4 hnil4
  clear F2
  go_wp2_with fail
  refine (calls_ipost (H.above _ _ _ _ (n : Int) _ FG.out (i64_small (by omega)) HG.out) (aboveL_none (.inr (by rw [FG.out.reads.len]; omega)))).mono ?_
  rintro e w5 ⟨⟨A5, c5, rfl, hr5, hnil5, hc5⟩, hb5⟩
  have hBz := HB.out.size
  have HB2 := Lib.hid (HB.out.trans (hb5.mono hBz))
  clear HB hBz
  have HB := HB2
  clear HB2
  have HG2 := Lib.hid (HG.out.next hb5)
  clear HG
  have HG := HG2
  clear HG2
  have FG2 := Lib.hid (FG.out.next hb5)
  clear FG
  have FG := FG2
  clear FG2
  have F12 := Lib.hid (F1.out.next hb5)
  clear F1
  have F1 := F12
  clear F12
  clear hb5
  have F3 := Lib.hid hr5
  have F3c := Lib.hid hc5
  have F3z := Lib.hid hnil5
  clear hr5 hc5 hnil5
  clear F3
  clear F1
  clear F1c F1z F2c F2z F3c F3z
  have HL := Lib.hid FG.out.reads.len
  have HB0 := HB
  clear HB
  go_wp2
  go_loopw [8] (fun i wr => ∃ k : Nat, k ≤ n ∧ i = .int .i64 k ∧ Below w5.heap.size w5 wr) (fun i _ => n - (intOf i).toNat)
  case atStart => exact ⟨0, Nat.zero_le _, rfl, Below.refl _ _⟩
  case round =>
    obtain ⟨k, hk, rfl, hb⟩ := hrel
    have HB := Lib.hid hb
    have FGr := Lib.hid (FG.out.next hb)
    have HGr := Lib.hid (HG.out.next hb)
    clear hb
    by_cases hlt : k < n
    · have hkl : Hid (k < g.length) := Lib.hid (by rw [HL.out]; exact hlt)
      go_wp2_with fail
      refine (H.under _ _ _ _ (k : Int) _ FGr.out (i64_small (by omega)) HGr.out).mono ?_
      rintro e w1 ⟨⟨A1, c1, rfl, hr1, hnil1, hc1⟩, hb1⟩
      have hBz := HB.out.size
      have HB2 := Lib.hid (HB.out.trans (hb1.mono hBz))
      clear HB hBz
      have HB := HB2
      clear HB2
      have HGr2 := Lib.hid (HGr.out.next hb1)
      clear HGr
      have HGr := HGr2
      clear HGr2
      have FGr2 := Lib.hid (FGr.out.next hb1)
      clear FGr
      have FGr := FGr2
      clear FGr2
      clear hb1
      have F1 := Lib.hid hr1
      have F1c := Lib.hid hc1
      have F1z := Lib.hid hnil1
      clear hr1 hc1 hnil1
      have HB1 := HB
      clear HB
      go_wp2
      go_loopw [10] (fun i wr => ∃ j : Nat, j ≤ n ∧ i = .int .i64 j ∧ Below w1.heap.size w1 wr) (fun i _ => n - (intOf i).toNat)
      case atStart => exact ⟨0, Nat.zero_le _, rfl, Below.refl _ _⟩
      case round =>
        obtain ⟨j, hj, rfl, hb⟩ := hrel
        have HB := Lib.hid hb
        have FGs := Lib.hid (FGr.out.next hb)
        have HGs := Lib.hid (HGr.out.next hb)
        have F1s := Lib.hid (F1.out.next hb)
        clear hb
        by_cases hltj : j < n
        · have hjl : Hid (j < g.length) := Lib.hid (by rw [HL.out]; exact hltj)
          obtain ⟨o, ho⟩ : ∃ o, overG g k j = o := ⟨_, rfl⟩
          have HA1 := Lib.hid ((has_under HR.out hkl.out hjl.out).trans ho)
          have HA2 := Lib.hid ((has_above HR.out (n := k) hjl.out).trans ho)
          clear ho
          go_wp2_with fail
          refine (s_has F1s.out (ml300 (Nat.le_trans (underL_len _) (by omega))) HA1.out).mono ?_
          rintro e w1 ⟨rfl, hb1⟩
          have hBz := HB.out.size
          have HB2 := Lib.hid (HB.out.trans (hb1.mono hBz))
          clear HB hBz
          have HB := HB2
          clear HB2
          have HGs2 := Lib.hid (HGs.out.next hb1)
          clear HGs
          have HGs := HGs2
          clear HGs2
          have FGs2 := Lib.hid (FGs.out.next hb1)
          clear FGs
          have FGs := FGs2
          clear FGs2
          have F1s2 := Lib.hid (F1s.out.next hb1)
          clear F1s
          have F1s := F1s2
          clear F1s2
          clear hb1
          clear F1s
          go_wp2_with fail
          refine (H.above _ _ _ _ (j : Int) _ FGs.out (i64_small (by omega)) HGs.out).mono ?_
          rintro e w2 ⟨⟨A2, c2, rfl, hr2, hnil2, hc2⟩, hb2⟩
          have hBz := HB.out.size
          have HB2 := Lib.hid (HB.out.trans (hb2.mono hBz))
          clear HB hBz
          have HB := HB2
          clear HB2
          have HGs2 := Lib.hid (HGs.out.next hb2)
          clear HGs
          have HGs := HGs2
          clear HGs2
          have FGs2 := Lib.hid (FGs.out.next hb2)
          clear FGs
          have FGs := FGs2
          clear FGs2
          clear hb2
          have F2 := Lib.hid hr2
          have F2c := Lib.hid hc2
          have F2z := Lib.hid hnil2
          clear hr2 hc2 hnil2
          go_wp2_with fail
          refine (s_has F2.out (ml300 (Nat.le_trans (aboveL_len _) (by omega))) HA2.out).mono ?_
          rintro e w3 ⟨rfl, hb3⟩
          have hBz := HB.out.size
          have HB2 := Lib.hid (HB.out.trans (hb3.mono hBz))
          clear HB hBz
          have HB := HB2
          clear HB2
          have HGs2 := Lib.hid (HGs.out.next hb3)
          clear HGs
          have HGs := HGs2
          clear HGs2
          have FGs2 := Lib.hid (FGs.out.next hb3)
          clear FGs
          have FGs := FGs2
          clear FGs2
          have F22 := Lib.hid (F2.out.next hb3)
          clear F2
          have F2 := F22
          clear F22
          clear hb3
          clear F2
          have hne : (o != o) = false := by simp
          go_wp2
          go_roundw
          case rel => exact ⟨j + 1, by omega, by go_num, HB.out⟩
          case measure => simp [intOf]; omega
        · have HBB := Lib.hid (HB1.out.trans (HB.out.mono HB1.out.size))
          go_wp2
          go_roundw
          case rel => exact ⟨k + 1, by omega, by go_num, HBB.out⟩
          case measure => simp [intOf]; omega
    · have hkm : k = n := by omega
      subst hkm
      have HB2 := Lib.hid (HB0.out.trans (HB.out.mono HB0.out.size))
      clear HB HB0
      have HB := HB2
      clear HB2
      go_wp2
      go_ret
      exact ⟨rfl, HB.out⟩

set_option maxRecDepth 100000 in
set_option maxHeartbeats 4000000 in
theorem graphUnder_in0 (H : GraphOk) (A : Option Addr) (n c : Nat) (g : Gr) (a b : Nat) (w : World) (hg : GAsk w A n c g) (h60 : n ≤ 60) (hG : Glob w) (hr : rightG g = true) (h3 : a < n) (h4 : b < n) (hp1 : partB (underL g (a : Int)) (underL g (b : Int)) = true) :
    Calls Try.prog 4 #[.slice A n c, .int .i64 a, .int .i64 b] w fun e w' => e = .returned (.bool true) ∧ Below w.heap.size w w' := by
  have FG := Lib.hid hg
  have HG := Lib.hid hG
  have HR := Lib.hid hr
  have HB := Lib.hid (Below.refl w.heap.size w)
  have h60d : decide (60 < (n : Int)) = false := by simp; omega
  have HP1 := Lib.hid hp1
  have h3d : decide (n ≤ a) = false := by simp; omega
  have h4d : decide (n ≤ b) = false := by simp; omega
  clear hg hG hr hp1
  go_enter Try.func4, Try.ntmps4
  go_wp2_with fail
  refine (graphAwake_any H _ HG.out).mono ?_
  rintro e w1 ⟨rfl, hb1⟩
  have hBz := HB.out.size
  have HB2 := Lib.hid (HB.out.trans (hb1.mono hBz))
  clear HB hBz
  have HB := HB2
  clear HB2
  have HG2 := Lib.hid (HG.out.next hb1)
  clear HG
  have HG := HG2
  clear HG2
  have FG2 := Lib.hid (FG.out.next hb1)
  clear FG
  have FG := FG2
  clear FG2
  clear hb1
  go_wp2_with fail
  refine (calls_bool (H.right _ _ _ _ _ FG.out HG.out) HR.out).mono ?_
  rintro e w2 ⟨rfl, hb2⟩
  have hBz := HB.out.size
  have HB2 := Lib.hid (HB.out.trans (hb2.mono hBz))
  clear HB hBz
  have HB := HB2
  clear HB2
  have HG2 := Lib.hid (HG.out.next hb2)
  clear HG
  have HG := HG2
  clear HG2
  have FG2 := Lib.hid (FG.out.next hb2)
  clear FG
  have FG := FG2
  clear FG2
  clear hb2
  go_wp2_with fail
  refine (H.under _ _ _ _ 0 _ FG.out (i64_small (k := 0) (by omega)) HG.out).mono ?_
  rintro e w3 ⟨⟨A3, c3, rfl, hr3, hnil3, hc3⟩, hb3⟩
  have hBz := HB.out.size
  have HB2 := Lib.hid (HB.out.trans (hb3.mono hBz))
  clear HB hBz
  have HB := HB2
  clear HB2
  have HG2 := Lib.hid (HG.out.next hb3)
  clear HG
  have HG := HG2
  clear HG2
  have FG2 := Lib.hid (FG.out.next hb3)
  clear FG
  have FG := FG2
  clear FG2
  clear hb3
  have F1 := Lib.hid hr3
  have F1c := Lib.hid hc3
  have F1z := Lib.hid hnil3
  clear hr3 hc3 hnil3
  have hz0 : (((underL g 0).length : Int) != (n : Int)) = false := by rw [under_zero_len HR.out, FG.out.reads.len]; simp
  go_wp2_with fail
  refine (calls_ipost (H.under _ _ _ _ (-1) _ FG.out ⟨by omega, by omega⟩ HG.out) (underL_none (.inl (by omega)))).mono ?_
  rintro e w4 ⟨⟨A4, c4, rfl, hr4, hnil4, hc4⟩, hb4⟩
  have hBz := HB.out.size
  have HB2 := Lib.hid (HB.out.trans (hb4.mono hBz))
  clear HB hBz
  have HB := HB2
  clear HB2
  have HG2 := Lib.hid (HG.out.next hb4)
  clear HG
  have HG := HG2
  clear HG2
  have FG2 := Lib.hid (FG.out.next hb4)
  clear FG
  have FG := FG2
  clear FG2
  have F12 := Lib.hid (F1.out.next hb4)
  clear F1
  have F1 := F12
  clear F12
  clear hb4
  have F2 := Lib.hid hr4
  have F2c := Lib.hid hc4
  have F2z := Lib.hid hnil4
  clear hr4 hc4 hnil4
  clear F2
  go_wp2_with fail
  refine (calls_ipost (H.above _ _ _ _ (n : Int) _ FG.out (i64_small (by omega)) HG.out) (aboveL_none (.inr (by rw [FG.out.reads.len]; omega)))).mono ?_
  rintro e w5 ⟨⟨A5, c5, rfl, hr5, hnil5, hc5⟩, hb5⟩
  have hBz := HB.out.size
  have HB2 := Lib.hid (HB.out.trans (hb5.mono hBz))
  clear HB hBz
  have HB := HB2
  clear HB2
  have HG2 := Lib.hid (HG.out.next hb5)
  clear HG
  have HG := HG2
  clear HG2
  have FG2 := Lib.hid (FG.out.next hb5)
  clear FG
  have FG := FG2
  clear FG2
  have F12 := Lib.hid (F1.out.next hb5)
  clear F1
  have F1 := F12
  clear F12
  clear hb5
  have F3 := Lib.hid hr5
  have F3c := Lib.hid hc5
  have F3z := Lib.hid hnil5
  clear hr5 hc5 hnil5
  clear F3
  clear F1
  clear F1c F1z F2c F2z F3c F3z
  have HL := Lib.hid FG.out.reads.len
  have HB0 := HB
  clear HB
  go_wp2
  go_loopw [8] (fun i wr => ∃ k : Nat, k ≤ n ∧ i = .int .i64 k ∧ Below w5.heap.size w5 wr) (fun i _ => n - (intOf i).toNat)
  case atStart => exact ⟨0, Nat.zero_le _, rfl, Below.refl _ _⟩
  case round =>
    obtain ⟨k, hk, rfl, hb⟩ := hrel
    have HB := Lib.hid hb
    have FGr := Lib.hid (FG.out.next hb)
    have HGr := Lib.hid (HG.out.next hb)
    clear hb
    by_cases hlt : k < n
    · have hkl : Hid (k < g.length) := Lib.hid (by rw [HL.out]; exact hlt)
      go_wp2_with fail
      refine (H.under _ _ _ _ (k : Int) _ FGr.out (i64_small (by omega)) HGr.out).mono ?_
      rintro e w1 ⟨⟨A1, c1, rfl, hr1, hnil1, hc1⟩, hb1⟩
      have hBz := HB.out.size
      have HB2 := Lib.hid (HB.out.trans (hb1.mono hBz))
      clear HB hBz
      have HB := HB2
      clear HB2
      have HGr2 := Lib.hid (HGr.out.next hb1)
      clear HGr
      have HGr := HGr2
      clear HGr2
      have FGr2 := Lib.hid (FGr.out.next hb1)
      clear FGr
      have FGr := FGr2
      clear FGr2
      clear hb1
      have F1 := Lib.hid hr1
      have F1c := Lib.hid hc1
      have F1z := Lib.hid hnil1
      clear hr1 hc1 hnil1
      have HB1 := HB
      clear HB
      go_wp2
      go_loopw [10] (fun i wr => ∃ j : Nat, j ≤ n ∧ i = .int .i64 j ∧ Below w1.heap.size w1 wr) (fun i _ => n - (intOf i).toNat)
      case atStart => exact ⟨0, Nat.zero_le _, rfl, Below.refl _ _⟩
      case round =>
        obtain ⟨j, hj, rfl, hb⟩ := hrel
        have HB := Lib.hid hb
        have FGs := Lib.hid (FGr.out.next hb)
        have HGs := Lib.hid (HGr.out.next hb)
        have F1s := Lib.hid (F1.out.next hb)
        clear hb
        by_cases hltj : j < n
        · have hjl : Hid (j < g.length) := Lib.hid (by rw [HL.out]; exact hltj)
          obtain ⟨o, ho⟩ : ∃ o, overG g k j = o := ⟨_, rfl⟩
          have HA1 := Lib.hid ((has_under HR.out hkl.out hjl.out).trans ho)
          have HA2 := Lib.hid ((has_above HR.out (n := k) hjl.out).trans ho)
          clear ho
          go_wp2_with fail
          refine (s_has F1s.out (ml300 (Nat.le_trans (underL_len _) (by omega))) HA1.out).mono ?_
          rintro e w1 ⟨rfl, hb1⟩
          have hBz := HB.out.size
          have HB2 := Lib.hid (HB.out.trans (hb1.mono hBz))
          clear HB hBz
          have HB := HB2
          clear HB2
          have HGs2 := Lib.hid (HGs.out.next hb1)
          clear HGs
          have HGs := HGs2
          clear HGs2
          have FGs2 := Lib.hid (FGs.out.next hb1)
          clear FGs
          have FGs := FGs2
          clear FGs2
          have F1s2 := Lib.hid (F1s.out.next hb1)
          clear F1s
          have F1s := F1s2
          clear F1s2
          clear hb1
          clear F1s
          go_wp2_with fail
          refine (H.above _ _ _ _ (j : Int) _ FGs.out (i64_small (by omega)) HGs.out).mono ?_
          rintro e w2 ⟨⟨A2, c2, rfl, hr2, hnil2, hc2⟩, hb2⟩
          have hBz := HB.out.size
          have HB2 := Lib.hid (HB.out.trans (hb2.mono hBz))
          clear HB hBz
          have HB := HB2
          clear HB2
          have HGs2 := Lib.hid (HGs.out.next hb2)
          clear HGs
          have HGs := HGs2
          clear HGs2
          have FGs2 := Lib.hid (FGs.out.next hb2)
          clear FGs
          have FGs := FGs2
          clear FGs2
          clear hb2
          have F2 := Lib.hid hr2
          have F2c := Lib.hid hc2
          have F2z := Lib.hid hnil2
          clear hr2 hc2 hnil2
          go_wp2_with fail
          refine (s_has F2.out (ml300 (Nat.le_trans (aboveL_len _) (by omega))) HA2.out).mono ?_
          rintro e w3 ⟨rfl, hb3⟩
          have hBz := HB.out.size
          have HB2 := Lib.hid (HB.out.trans (hb3.mono hBz))
          clear HB hBz
          have HB := HB2
          clear HB2
          have HGs2 := Lib.hid (HGs.out.next hb3)
          clear HGs
          have HGs := HGs2
          clear HGs2
          have FGs2 := Lib.hid (FGs.out.next hb3)
          clear FGs
          have FGs := FGs2
          clear FGs2
          have F22 := Lib.hid (F2.out.next hb3)
          clear F2
          have F2 := F22
          clear F22
          clear hb3
          clear F2
          have hne : (o != o) = false := by simp
          go_wp2
          go_roundw
          case rel => exact ⟨j + 1, by omega, by go_num, HB.out⟩
          case measure => simp [intOf]; omega
        · have HBB := Lib.hid (HB1.out.trans (HB.out.mono HB1.out.size))
          go_wp2
          go_roundw
          case rel => exact ⟨k + 1, by omega, by go_num, HBB.out⟩
          case measure => simp [intOf]; omega
    · have hkm : k = n := by omega
      subst hkm
      have HB2 := Lib.hid (HB0.out.trans (HB.out.mono HB0.out.size))
      clear HB HB0
      have HB := HB2
      clear HB2
      go_wp2_with fail
      refine (H.under _ _ _ _ (a : Int) _ FGr.out (i64_small (by omega)) HGr.out).mono ?_
      rintro e w1 ⟨⟨A1, c1, rfl, hr1, hnil1, hc1⟩, hb1⟩
      have hBz := HB.out.size
      have HB2 := Lib.hid (HB.out.trans (hb1.mono hBz))
      clear HB hBz
      have HB := HB2
      clear HB2
      have HGr2 := Lib.hid (HGr.out.next hb1)
      clear HGr
      have HGr := HGr2
      clear HGr2
      have FGr2 := Lib.hid (FGr.out.next hb1)
      clear FGr
      have FGr := FGr2
      clear FGr2
      clear hb1
      have F1 := Lib.hid hr1
      have F1c := Lib.hid hc1
      have F1z := Lib.hid hnil1
      clear hr1 hc1 hnil1
      go_wp2_with fail
      refine (H.under _ _ _ _ (b : Int) _ FGr.out (i64_small (by omega)) HGr.out).mono ?_
      rintro e w2 ⟨⟨A2, c2, rfl, hr2, hnil2, hc2⟩, hb2⟩
      have hBz := HB.out.size
      have HB2 := Lib.hid (HB.out.trans (hb2.mono hBz))
      clear HB hBz
      have HB := HB2
      clear HB2
      have HGr2 := Lib.hid (HGr.out.next hb2)
      clear HGr
      have HGr := HGr2
      clear HGr2
      have FGr2 := Lib.hid (FGr.out.next hb2)
      clear FGr
      have FGr := FGr2
      clear FGr2
      have F12 := Lib.hid (F1.out.next hb2)
      clear F1
      have F1 := F12
      clear F12
      clear hb2
      have F2 := Lib.hid hr2
      have F2c := Lib.hid hc2
      have F2z := Lib.hid hnil2
      clear hr2 hc2 hnil2
      go_wp2_with fail
      refine (s_part F1.out F2.out (ml300 (Nat.le_trans (underL_len _) (by omega))) (ml300 (Nat.le_trans (underL_len _) (by omega))) HP1.out).mono ?_
      rintro e w3 ⟨rfl, hb3⟩
      have hBz := HB.out.size
      have HB2 := Lib.hid (HB.out.trans (hb3.mono hBz))
      clear HB hBz
      have HB := HB2
      clear HB2
      have HGr2 := Lib.hid (HGr.out.next hb3)
      clear HGr
      have HGr := HGr2
      clear HGr2
      have FGr2 := Lib.hid (FGr.out.next hb3)
      clear FGr
      have FGr := FGr2
      clear FGr2
      have F12 := Lib.hid (F1.out.next hb3)
      clear F1
      have F1 := F12
      clear F12
      have F22 := Lib.hid (F2.out.next hb3)
      clear F2
      have F2 := F22
      clear F22
      clear hb3
      go_wp2
      go_ret
      exact ⟨rfl, HB.out⟩

set_option maxRecDepth 100000 in
set_option maxHeartbeats 4000000 in
theorem graphUnder_in1 (H : GraphOk) (A : Option Addr) (n c : Nat) (g : Gr) (a b : Nat) (w : World) (hg : GAsk w A n c g) (h60 : n ≤ 60) (hG : Glob w) (hr : rightG g = true) (h3 : a < n) (h4 : b < n) (hp1 : partB (underL g (a : Int)) (underL g (b : Int)) = false) (hp2 : partB (underL g (b : Int)) (underL g (a : Int)) = true) :
    Calls Try.prog 4 #[.slice A n c, .int .i64 a, .int .i64 b] w fun e w' => e = .returned (.bool true) ∧ Below w.heap.size w w' := by
  have FG := Lib.hid hg
  have HG := Lib.hid hG
  have HR := Lib.hid hr
  have HB := Lib.hid (Below.refl w.heap.size w)
  have h60d : decide (60 < (n : Int)) = false := by simp; omega
  have HP1 := Lib.hid hp1
  have HP2 := Lib.hid hp2
  have h3d : decide (n ≤ a) = false := by simp; omega
  have h4d : decide (n ≤ b) = false := by simp; omega
  clear hg hG hr hp1 hp2
  go_enter Try.func4, Try.ntmps4
  go_wp2_with fail
  refine (graphAwake_any H _ HG.out).mono ?_
  rintro e w1 ⟨rfl, hb1⟩
  have hBz := HB.out.size
  have HB2 := Lib.hid (HB.out.trans (hb1.mono hBz))
  clear HB hBz
  have HB := HB2
  clear HB2
  have HG2 := Lib.hid (HG.out.next hb1)
  clear HG
  have HG := HG2
  clear HG2
  have FG2 := Lib.hid (FG.out.next hb1)
  clear FG
  have FG := FG2
  clear FG2
  clear hb1
  go_wp2_with fail
  refine (calls_bool (H.right _ _ _ _ _ FG.out HG.out) HR.out).mono ?_
  rintro e w2 ⟨rfl, hb2⟩
  have hBz := HB.out.size
  have HB2 := Lib.hid (HB.out.trans (hb2.mono hBz))
  clear HB hBz
  have HB := HB2
  clear HB2
  have HG2 := Lib.hid (HG.out.next hb2)
  clear HG
  have HG := HG2
  clear HG2
  have FG2 := Lib.hid (FG.out.next hb2)
  clear FG
  have FG := FG2
  clear FG2
  clear hb2
  go_wp2_with fail
  refine (H.under _ _ _ _ 0 _ FG.out (i64_small (k := 0) (by omega)) HG.out).mono ?_
  rintro e w3 ⟨⟨A3, c3, rfl, hr3, hnil3, hc3⟩, hb3⟩
  have hBz := HB.out.size
  have HB2 := Lib.hid (HB.out.trans (hb3.mono hBz))
  clear HB hBz
  have HB := HB2
  clear HB2
  have HG2 := Lib.hid (HG.out.next hb3)
  clear HG
  have HG := HG2
  clear HG2
  have FG2 := Lib.hid (FG.out.next hb3)
  clear FG
  have FG := FG2
  clear FG2
  clear hb3
  have F1 := Lib.hid hr3
  have F1c := Lib.hid hc3
  have F1z := Lib.hid hnil3
  clear hr3 hc3 hnil3
  have hz0 : (((underL g 0).length : Int) != (n : Int)) = false := by rw [under_zero_len HR.out, FG.out.reads.len]; simp
  go_wp2_with fail
  refine (calls_ipost (H.under _ _ _ _ (-1) _ FG.out ⟨by omega, by omega⟩ HG.out) (underL_none (.inl (by omega)))).mono ?_
  rintro e w4 ⟨⟨A4, c4, rfl, hr4, hnil4, hc4⟩, hb4⟩
  have hBz := HB.out.size
  have HB2 := Lib.hid (HB.out.trans (hb4.mono hBz))
  clear HB hBz
  have HB := HB2
  clear HB2
  have HG2 := Lib.hid (HG.out.next hb4)
  clear HG
  have HG := HG2
  clear HG2
  have FG2 := Lib.hid (FG.out.next hb4)
  clear FG
  have FG := FG2
  clear FG2
  have F12 := Lib.hid (F1.out.next hb4)
  clear F1
  have F1 := F12
  clear F12
  clear hb4
  have F2 := Lib.hid hr4
  have F2c := Lib.hid hc4
  have F2z := Lib.hid hnil4
  clear hr4 hc4 hnil4
  clear F2
  go_wp2_with fail
  refine (calls_ipost (H.above _ _ _ _ (n : Int) _ FG.out (i64_small (by omega)) HG.out) (aboveL_none (.inr (by rw [FG.out.reads.len]; omega)))).mono ?_
  rintro e w5 ⟨⟨A5, c5, rfl, hr5, hnil5, hc5⟩, hb5⟩
  have hBz := HB.out.size
  have HB2 := Lib.hid (HB.out.trans (hb5.mono hBz))
  clear HB hBz
  have HB := HB2
  clear HB2
  have HG2 := Lib.hid (HG.out.next hb5)
  clear HG
  have HG := HG2
  clear HG2
  have FG2 := Lib.hid (FG.out.next hb5)
  clear FG
  have FG := FG2
  clear FG2
  have F12 := Lib.hid (F1.out.next hb5)
  clear F1
  have F1 := F12
  clear F12
  clear hb5
  have F3 := Lib.hid hr5
  have F3c := Lib.hid hc5
  have F3z := Lib.hid hnil5
  clear hr5 hc5 hnil5
  clear F3
  clear F1
  clear F1c F1z F2c F2z F3c F3z
  have HL := Lib.hid FG.out.reads.len
  have HB0 := HB
  clear HB
  go_wp2
  go_loopw [8] (fun i wr => ∃ k : Nat, k ≤ n ∧ i = .int .i64 k ∧ Below w5.heap.size w5 wr) (fun i _ => n - (intOf i).toNat)
  case atStart => exact ⟨0, Nat.zero_le _, rfl, Below.refl _ _⟩
  case round =>
    obtain ⟨k, hk, rfl, hb⟩ := hrel
    have HB := Lib.hid hb
    have FGr := Lib.hid (FG.out.next hb)
    have HGr := Lib.hid (HG.out.next hb)
    clear hb
    by_cases hlt : k < n
    · have hkl : Hid (k < g.length) := Lib.hid (by rw [HL.out]; exact hlt)
      go_wp2_with fail
      refine (H.under _ _ _ _ (k : Int) _ FGr.out (i64_small (by omega)) HGr.out).mono ?_
      rintro e w1 ⟨⟨A1, c1, rfl, hr1, hnil1, hc1⟩, hb1⟩
      have hBz := HB.out.size
      have HB2 := Lib.hid (HB.out.trans (hb1.mono hBz))
      clear HB hBz
      have HB := HB2
      clear HB2
      have HGr2 := Lib.hid (HGr.out.next hb1)
      clear HGr
      have HGr := HGr2
      clear HGr2
      have FGr2 := Lib.hid (FGr.out.next hb1)
      clear FGr
      have FGr := FGr2
      clear FGr2
      clear hb1
      have F1 := Lib.hid hr1
      have F1c := Lib.hid hc1
      have F1z := Lib.hid hnil1
      clear hr1 hc1 hnil1
      have HB1 := HB
      clear HB
      go_wp2
      go_loopw [10] (fun i wr => ∃ j : Nat, j ≤ n ∧ i = .int .i64 j ∧ Below w1.heap.size w1 wr) (fun i _ => n - (intOf i).toNat)
      case atStart => exact ⟨0, Nat.zero_le _, rfl, Below.refl _ _⟩
      case round =>
        obtain ⟨j, hj, rfl, hb⟩ := hrel
        have HB := Lib.hid hb
        have FGs := Lib.hid (FGr.out.next hb)
        have HGs := Lib.hid (HGr.out.next hb)
        have F1s := Lib.hid (F1.out.next hb)
        clear hb
        by_cases hltj : j < n
        · have hjl : Hid (j < g.length) := Lib.hid (by rw [HL.out]; exact hltj)
          obtain ⟨o, ho⟩ : ∃ o, overG g k j = o := ⟨_, rfl⟩
          have HA1 := Lib.hid ((has_under HR.out hkl.out hjl.out).trans ho)
          have HA2 := Lib.hid ((has_above HR.out (n := k) hjl.out).trans ho)
          clear ho
          go_wp2_with fail
          refine (s_has F1s.out (ml300 (Nat.le_trans (underL_len _) (by omega))) HA1.out).mono ?_
          rintro e w1 ⟨rfl, hb1⟩
          have hBz := HB.out.size
          have HB2 := Lib.hid (HB.out.trans (hb1.mono hBz))
          clear HB hBz
          have HB := HB2
          clear HB2
          have HGs2 := Lib.hid (HGs.out.next hb1)
          clear HGs
          have HGs := HGs2
          clear HGs2
          have FGs2 := Lib.hid (FGs.out.next hb1)
          clear FGs
          have FGs := FGs2
          clear FGs2
          have F1s2 := Lib.hid (F1s.out.next hb1)
          clear F1s
          have F1s := F1s2
          clear F1s2
          clear hb1
          clear F1s
          go_wp2_with fail
          refine (H.above _ _ _ _ (j : Int) _ FGs.out (i64_small (by omega)) HGs.out).mono ?_
          rintro e w2 ⟨⟨A2, c2, rfl, hr2, hnil2, hc2⟩, hb2⟩
          have hBz := HB.out.size
          have HB2 := Lib.hid (HB.out.trans (hb2.mono hBz))
          clear HB hBz
          have HB := HB2
          clear HB2
          have HGs2 := Lib.hid (HGs.out.next hb2)
          clear HGs
          have HGs := HGs2
          clear HGs2
          have FGs2 := Lib.hid (FGs.out.next hb2)
          clear FGs
          have FGs := FGs2
          clear FGs2
          clear hb2
          have F2 := Lib.hid hr2
          have F2c := Lib.hid hc2
          have F2z := Lib.hid hnil2
          clear hr2 hc2 hnil2
          go_wp2_with fail
          refine (s_has F2.out (ml300 (Nat.le_trans (aboveL_len _) (by omega))) HA2.out).mono ?_
          rintro e w3 ⟨rfl, hb3⟩
          have hBz := HB.out.size
          have HB2 := Lib.hid (HB.out.trans (hb3.mono hBz))
          clear HB hBz
          have HB := HB2
          clear HB2
          have HGs2 := Lib.hid (HGs.out.next hb3)
          clear HGs
          have HGs := HGs2
          clear HGs2
          have FGs2 := Lib.hid (FGs.out.next hb3)
          clear FGs
          have FGs := FGs2
          clear FGs2
          have F22 := Lib.hid (F2.out.next hb3)
          clear F2
          have F2 := F22
          clear F22
          clear hb3
          clear F2
          have hne : (o != o) = false := by simp
          go_wp2
          go_roundw
          case rel => exact ⟨j + 1, by omega, by go_num, HB.out⟩
          case measure => simp [intOf]; omega
        · have HBB := Lib.hid (HB1.out.trans (HB.out.mono HB1.out.size))
          go_wp2
          go_roundw
          case rel => exact ⟨k + 1, by omega, by go_num, HBB.out⟩
          case measure => simp [intOf]; omega
    · have hkm : k = n := by omega
      subst hkm
      have HB2 := Lib.hid (HB0.out.trans (HB.out.mono HB0.out.size))
      clear HB HB0
      have HB := HB2
      clear HB2
      go_wp2_with fail
      refine (H.under _ _ _ _ (a : Int) _ FGr.out (i64_small (by omega)) HGr.out).mono ?_
      rintro e w1 ⟨⟨A1, c1, rfl, hr1, hnil1, hc1⟩, hb1⟩
      have hBz := HB.out.size
      have HB2 := Lib.hid (HB.out.trans (hb1.mono hBz))
      clear HB hBz
      have HB := HB2
      clear HB2
      have HGr2 := Lib.hid (HGr.out.next hb1)
      clear HGr
      have HGr := HGr2
      clear HGr2
      have FGr2 := Lib.hid (FGr.out.next hb1)
      clear FGr
      have FGr := FGr2
      clear FGr2
      clear hb1
      have F1 := Lib.hid hr1
      have F1c := Lib.hid hc1
      have F1z := Lib.hid hnil1
      clear hr1 hc1 hnil1
      go_wp2_with fail
      refine (H.under _ _ _ _ (b : Int) _ FGr.out (i64_small (by omega)) HGr.out).mono ?_
      rintro e w2 ⟨⟨A2, c2, rfl, hr2, hnil2, hc2⟩, hb2⟩
      have hBz := HB.out.size
      have HB2 := Lib.hid (HB.out.trans (hb2.mono hBz))
      clear HB hBz
      have HB := HB2
      clear HB2
      have HGr2 := Lib.hid (HGr.out.next hb2)
      clear HGr
      have HGr := HGr2
      clear HGr2
      have FGr2 := Lib.hid (FGr.out.next hb2)
      clear FGr
      have FGr := FGr2
      clear FGr2
      have F12 := Lib.hid (F1.out.next hb2)
      clear F1
      have F1 := F12
      clear F12
      clear hb2
      have F2 := Lib.hid hr2
      have F2c := Lib.hid hc2
      have F2z := Lib.hid hnil2
      clear hr2 hc2 hnil2
      go_wp2_with fail
      refine (s_part F1.out F2.out (ml300 (Nat.le_trans (underL_len _) (by omega))) (ml300 (Nat.le_trans (underL_len _) (by omega))) HP1.out).mono ?_
      rintro e w3 ⟨rfl, hb3⟩
      have hBz := HB.out.size
      have HB2 := Lib.hid (HB.out.trans (hb3.mono hBz))
      clear HB hBz
      have HB := HB2
      clear HB2
      have HGr2 := Lib.hid (HGr.out.next hb3)
      clear HGr
      have HGr := HGr2
      clear HGr2
      have FGr2 := Lib.hid (FGr.out.next hb3)
      clear FGr
      have FGr := FGr2
      clear FGr2
      have F12 := Lib.hid (F1.out.next hb3)
      clear F1
      have F1 := F12
      clear F12
      have F22 := Lib.hid (F2.out.next hb3)
      clear F2
      have F2 := F22
      clear F22
      clear hb3
      go_wp2_with fail
      refine (s_part F2.out F1.out (ml300 (Nat.le_trans (underL_len _) (by omega))) (ml300 (Nat.le_trans (underL_len _) (by omega))) HP2.out).mono ?_
      rintro e w4 ⟨rfl, hb4⟩
      have hBz := HB.out.size
      have HB2 := Lib.hid (HB.out.trans (hb4.mono hBz))
      clear HB hBz
      have HB := HB2
      clear HB2
      have HGr2 := Lib.hid (HGr.out.next hb4)
      clear HGr
      have HGr := HGr2
      clear HGr2
      have FGr2 := Lib.hid (FGr.out.next hb4)
      clear FGr
      have FGr := FGr2
      clear FGr2
      have F12 := Lib.hid (F1.out.next hb4)
      clear F1
      have F1 := F12
      clear F12
      have F22 := Lib.hid (F2.out.next hb4)
      clear F2
      have F2 := F22
      clear F22
      clear hb4
      go_wp2
      go_ret
      exact ⟨rfl, HB.out⟩

set_option maxRecDepth 100000 in
set_option maxHeartbeats 4000000 in
theorem graphUnder_in2 (H : GraphOk) (A : Option Addr) (n c : Nat) (g : Gr) (a b : Nat) (w : World) (hg : GAsk w A n c g) (h60 : n ≤ 60) (hG : Glob w) (hr : rightG g = true) (h3 : a < n) (h4 : b < n) (hp1 : partB (underL g (a : Int)) (underL g (b : Int)) = false) (hp2 : partB (underL g (b : Int)) (underL g (a : Int)) = false) (hp3 : apartB (underL g (a : Int)) (underL g (b : Int)) = true) :
    Calls Try.prog 4 #[.slice A n c, .int .i64 a, .int .i64 b] w fun e w' => e = .returned (.bool true) ∧ Below w.heap.size w w' := by
  have FG := Lib.hid hg
  have HG := Lib.hid hG
  have HR := Lib.hid hr
  have HB := Lib.hid (Below.refl w.heap.size w)
  have h60d : decide (60 < (n : Int)) = false := by simp; omega
  have HP1 := Lib.hid hp1
  have HP2 := Lib.hid hp2
  have HP3 := Lib.hid hp3
  have h3d : decide (n ≤ a) = false := by simp; omega
  have h4d : decide (n ≤ b) = false := by simp; omega
  clear hg hG hr hp1 hp2 hp3
  go_enter Try.func4, Try.ntmps4
  go_wp2_with fail
  refine (graphAwake_any H _ HG.out).mono ?_
  rintro e w1 ⟨rfl, hb1⟩
  have hBz := HB.out.size
  have HB2 := Lib.hid (HB.out.trans (hb1.mono hBz))
  clear HB hBz
  have HB := HB2
  clear HB2
  have HG2 := Lib.hid (HG.out.next hb1)
  clear HG
  have HG := HG2
  clear HG2
  have FG2 := Lib.hid (FG.out.next hb1)
  clear FG
  have FG := FG2
  clear FG2
  clear hb1
  go_wp2_with fail
  refine (calls_bool (H.right _ _ _ _ _ FG.out HG.out) HR.out).mono ?_
  rintro e w2 ⟨rfl, hb2⟩
  have hBz := HB.out.size
  have HB2 := Lib.hid (HB.out.trans (hb2.mono hBz))
  clear HB hBz
  have HB := HB2
  clear HB2
  have HG2 := Lib.hid (HG.out.next hb2)
  clear HG
  have HG := HG2
  clear HG2
  have FG2 := Lib.hid (FG.out.next hb2)
  clear FG
  have FG := FG2
  clear FG2
  clear hb2
  go_wp2_with fail
  refine (H.under _ _ _ _ 0 _ FG.out (i64_small (k := 0) (by omega)) HG.out).mono ?_
  rintro e w3 ⟨⟨A3, c3, rfl, hr3, hnil3, hc3⟩, hb3⟩
  have hBz := HB.out.size
  have HB2 := Lib.hid (HB.out.trans (hb3.mono hBz))
  clear HB hBz
  have HB := HB2
  clear HB2
  have HG2 := Lib.hid (HG.out.next hb3)
  clear HG
  have HG := HG2
  clear HG2
  have FG2 := Lib.hid (FG.out.next hb3)
  clear FG
  have FG := FG2
  clear FG2
  clear hb3
  have F1 := Lib.hid hr3
  have F1c := Lib.hid hc3
  have F1z := Lib.hid hnil3
  clear hr3 hc3 hnil3
  have hz0 : (((underL g 0).length : Int) != (n : Int)) = false := by rw [under_zero_len HR.out, FG.out.reads.len]; simp
  go_wp2_with fail
  refine (calls_ipost (H.under _ _ _ _ (-1) _ FG.out ⟨by omega, by omega⟩ HG.out) (underL_none (.inl (by omega)))).mono ?_
  rintro e w4 ⟨⟨A4, c4, rfl, hr4, hnil4, hc4⟩, hb4⟩
  have hBz := HB.out.size
  have HB2 := Lib.hid (HB.out.trans (hb4.mono hBz))
  clear HB hBz
  have HB := HB2
  clear HB2
  have HG2 := Lib.hid (HG.out.next hb4)
  clear HG
  have HG := HG2
  clear HG2
  have FG2 := Lib.hid (FG.out.next hb4)
  clear FG
  have FG := FG2
  clear FG2
  have F12 := Lib.hid (F1.out.next hb4)
  clear F1
  have F1 := F12
  clear F12
  clear hb4
  have F2 := Lib.hid hr4
  have F2c := Lib.hid hc4
  have F2z := Lib.hid hnil4
  clear hr4 hc4 hnil4
  clear F2
  go_wp2_with fail
  refine (calls_ipost (H.above _ _ _ _ (n : Int) _ FG.out (i64_small (by omega)) HG.out) (aboveL_none (.inr (by rw [FG.out.reads.len]; omega)))).mono ?_
  rintro e w5 ⟨⟨A5, c5, rfl, hr5, hnil5, hc5⟩, hb5⟩
  have hBz := HB.out.size
  have HB2 := Lib.hid (HB.out.trans (hb5.mono hBz))
  clear HB hBz
  have HB := HB2
  clear HB2
  have HG2 := Lib.hid (HG.out.next hb5)
  clear HG
  have HG := HG2
  clear HG2
  have FG2 := Lib.hid (FG.out.next hb5)
  clear FG
  have FG := FG2
  clear FG2
  have F12 := Lib.hid (F1.out.next hb5)
  clear F1
  have F1 := F12
  clear F12
  clear hb5
  have F3 := Lib.hid hr5
  have F3c := Lib.hid hc5
  have F3z := Lib.hid hnil5
  clear hr5 hc5 hnil5
  clear F3
  clear F1
  clear F1c F1z F2c F2z F3c F3z
  have HL := Lib.hid FG.out.reads.len
  have HB0 := HB
  clear HB
  go_wp2
  go_loopw [8] (fun i wr => ∃ k : Nat, k ≤ n ∧ i = .int .i64 k ∧ Below w5.heap.size w5 wr) (fun i _ => n - (intOf i).toNat)
  case atStart => exact ⟨0, Nat.zero_le _, rfl, Below.refl _ _⟩
  case round =>
    obtain ⟨k, hk, rfl, hb⟩ := hrel
    have HB := Lib.hid hb
    have FGr := Lib.hid (FG.out.next hb)
    have HGr := Lib.hid (HG.out.next hb)
    clear hb
    by_cases hlt : k < n
    · have hkl : Hid (k < g.length) := Lib.hid (by rw [HL.out]; exact hlt)
      go_wp2_with fail
      refine (H.under _ _ _ _ (k : Int) _ FGr.out (i64_small (by omega)) HGr.out).mono ?_
      rintro e w1 ⟨⟨A1, c1, rfl, hr1, hnil1, hc1⟩, hb1⟩
      have hBz := HB.out.size
      have HB2 := Lib.hid (HB.out.trans (hb1.mono hBz))
      clear HB hBz
      have HB := HB2
      clear HB2
      have HGr2 := Lib.hid (HGr.out.next hb1)
      clear HGr
      have HGr := HGr2
      clear HGr2
      have FGr2 := Lib.hid (FGr.out.next hb1)
      clear FGr
      have FGr := FGr2
      clear FGr2
      clear hb1
      have F1 := Lib.hid hr1
      have F1c := Lib.hid hc1
      have F1z := Lib.hid hnil1
      clear hr1 hc1 hnil1
      have HB1 := HB
      clear HB
      go_wp2
      go_loopw [10] (fun i wr => ∃ j : Nat, j ≤ n ∧ i = .int .i64 j ∧ Below w1.heap.size w1 wr) (fun i _ => n - (intOf i).toNat)
      case atStart => exact ⟨0, Nat.zero_le _, rfl, Below.refl _ _⟩
      case round =>
        obtain ⟨j, hj, rfl, hb⟩ := hrel
        have HB := Lib.hid hb
        have FGs := Lib.hid (FGr.out.next hb)
        have HGs := Lib.hid (HGr.out.next hb)
        have F1s := Lib.hid (F1.out.next hb)
        clear hb
        by_cases hltj : j < n
        · have hjl : Hid (j < g.length) := Lib.hid (by rw [HL.out]; exact hltj)
          obtain ⟨o, ho⟩ : ∃ o, overG g k j = o := ⟨_, rfl⟩
          have HA1 := Lib.hid ((has_under HR.out hkl.out hjl.out).trans ho)
          have HA2 := Lib.hid ((has_above HR.out (n := k) hjl.out).trans ho)
          clear ho
          go_wp2_with fail
          refine (s_has F1s.out (ml300 (Nat.le_trans (underL_len _) (by omega))) HA1.out).mono ?_
          rintro e w1 ⟨rfl, hb1⟩
          have hBz := HB.out.size
          have HB2 := Lib.hid (HB.out.trans (hb1.mono hBz))
          clear HB hBz
          have HB := HB2
          clear HB2
          have HGs2 := Lib.hid (HGs.out.next hb1)
          clear HGs
          have HGs := HGs2
          clear HGs2
          have FGs2 := Lib.hid (FGs.out.next hb1)
          clear FGs
          have FGs := FGs2
          clear FGs2
          have F1s2 := Lib.hid (F1s.out.next hb1)
          clear F1s
          have F1s := F1s2
          clear F1s2
          clear hb1
          clear F1s
          go_wp2_with fail
          refine (H.above _ _ _ _ (j : Int) _ FGs.out (i64_small (by omega)) HGs.out).mono ?_
          rintro e w2 ⟨⟨A2, c2, rfl, hr2, hnil2, hc2⟩, hb2⟩
          have hBz := HB.out.size
          have HB2 := Lib.hid (HB.out.trans (hb2.mono hBz))
          clear HB hBz
          have HB := HB2
          clear HB2
          have HGs2 := Lib.hid (HGs.out.next hb2)
          clear HGs
          have HGs := HGs2
          clear HGs2
          have FGs2 := Lib.hid (FGs.out.next hb2)
          clear FGs
          have FGs := FGs2
          clear FGs2
          clear hb2
          have F2 := Lib.hid hr2
          have F2c := Lib.hid hc2
          have F2z := Lib.hid hnil2
          clear hr2 hc2 hnil2
          go_wp2_with fail
          refine (s_has F2.out (ml300 (Nat.le_trans (aboveL_len _) (by omega))) HA2.out).mono ?_
          rintro e w3 ⟨rfl, hb3⟩
          have hBz := HB.out.size
          have HB2 := Lib.hid (HB.out.trans (hb3.mono hBz))
          clear HB hBz
          have HB := HB2
          clear HB2
          have HGs2 := Lib.hid (HGs.out.next hb3)
          clear HGs
          have HGs := HGs2
          clear HGs2
          have FGs2 := Lib.hid (FGs.out.next hb3)
          clear FGs
          have FGs := FGs2
          clear FGs2
          have F22 := Lib.hid (F2.out.next hb3)
          clear F2
          have F2 := F22
          clear F22
          clear hb3
          clear F2
          have hne : (o != o) = false := by simp
          go_wp2
          go_roundw
          case rel => exact ⟨j + 1, by omega, by go_num, HB.out⟩
          case measure => simp [intOf]; omega
        · have HBB := Lib.hid (HB1.out.trans (HB.out.mono HB1.out.size))
          go_wp2
          go_roundw
          case rel => exact ⟨k + 1, by omega, by go_num, HBB.out⟩
          case measure => simp [intOf]; omega
    · have hkm : k = n := by omega
      subst hkm
      have HB2 := Lib.hid (HB0.out.trans (HB.out.mono HB0.out.size))
      clear HB HB0
      have HB := HB2
      clear HB2
      go_wp2_with fail
      refine (H.under _ _ _ _ (a : Int) _ FGr.out (i64_small (by omega)) HGr.out).mono ?_
      rintro e w1 ⟨⟨A1, c1, rfl, hr1, hnil1, hc1⟩, hb1⟩
      have hBz := HB.out.size
      have HB2 := Lib.hid (HB.out.trans (hb1.mono hBz))
      clear HB hBz
      have HB := HB2
      clear HB2
      have HGr2 := Lib.hid (HGr.out.next hb1)
      clear HGr
      have HGr := HGr2
      clear HGr2
      have FGr2 := Lib.hid (FGr.out.next hb1)
      clear FGr
      have FGr := FGr2
      clear FGr2
      clear hb1
      have F1 := Lib.hid hr1
      have F1c := Lib.hid hc1
      have F1z := Lib.hid hnil1
      clear hr1 hc1 hnil1
      go_wp2_with fail
      refine (H.under _ _ _ _ (b : Int) _ FGr.out (i64_small (by omega)) HGr.out).mono ?_
      rintro e w2 ⟨⟨A2, c2, rfl, hr2, hnil2, hc2⟩, hb2⟩
      have hBz := HB.out.size
      have HB2 := Lib.hid (HB.out.trans (hb2.mono hBz))
      clear HB hBz
      have HB := HB2
      clear HB2
      have HGr2 := Lib.hid (HGr.out.next hb2)
      clear HGr
      have HGr := HGr2
      clear HGr2
      have FGr2 := Lib.hid (FGr.out.next hb2)
      clear FGr
      have FGr := FGr2
      clear FGr2
      have F12 := Lib.hid (F1.out.next hb2)
      clear F1
      have F1 := F12
      clear F12
      clear hb2
      have F2 := Lib.hid hr2
      have F2c := Lib.hid hc2
      have F2z := Lib.hid hnil2
      clear hr2 hc2 hnil2
      go_wp2_with fail
      refine (s_part F1.out F2.out (ml300 (Nat.le_trans (underL_len _) (by omega))) (ml300 (Nat.le_trans (underL_len _) (by omega))) HP1.out).mono ?_
      rintro e w3 ⟨rfl, hb3⟩
      have hBz := HB.out.size
      have HB2 := Lib.hid (HB.out.trans (hb3.mono hBz))
      clear HB hBz
      have HB := HB2
      clear HB2
      have HGr2 := Lib.hid (HGr.out.next hb3)
      clear HGr
      have HGr := HGr2
      clear HGr2
      have FGr2 := Lib.hid (FGr.out.next hb3)
      clear FGr
      have FGr := FGr2
      clear FGr2
      have F12 := Lib.hid (F1.out.next hb3)
      clear F1
      have F1 := F12
      clear F12
      have F22 := Lib.hid (F2.out.next hb3)
      clear F2
      have F2 := F22
      clear F22
      clear hb3
      go_wp2_with fail
      refine (s_part F2.out F1.out (ml300 (Nat.le_trans (underL_len _) (by omega))) (ml300 (Nat.le_trans (underL_len _) (by omega))) HP2.out).mono ?_
      rintro e w4 ⟨rfl, hb4⟩
      have hBz := HB.out.size
      have HB2 := Lib.hid (HB.out.trans (hb4.mono hBz))
      clear HB hBz
      have HB := HB2
      clear HB2
      have HGr2 := Lib.hid (HGr.out.next hb4)
      clear HGr
      have HGr := HGr2
      clear HGr2
      have FGr2 := Lib.hid (FGr.out.next hb4)
      clear FGr
      have FGr := FGr2
      clear FGr2
      have F12 := Lib.hid (F1.out.next hb4)
      clear F1
      have F1 := F12
      clear F12
      have F22 := Lib.hid (F2.out.next hb4)
      clear F2
      have F2 := F22
      clear F22
      clear hb4
      go_wp2_with fail
      refine (s_apart F1.out F2.out (ml300 (Nat.le_trans (underL_len _) (by omega))) (ml300 (Nat.le_trans (underL_len _) (by omega))) HP3.out).mono ?_
      rintro e w5 ⟨rfl, hb5⟩
      have hBz := HB.out.size
      have HB2 := Lib.hid (HB.out.trans (hb5.mono hBz))
      clear HB hBz
      have HB := HB2
      clear HB2
      have HGr2 := Lib.hid (HGr.out.next hb5)
      clear HGr
      have HGr := HGr2
      clear HGr2
      have FGr2 := Lib.hid (FGr.out.next hb5)
      clear FGr
      have FGr := FGr2
      clear FGr2
      have F12 := Lib.hid (F1.out.next hb5)
      clear F1
      have F1 := F12
      clear F12
      have F22 := Lib.hid (F2.out.next hb5)
      clear F2
      have F2 := F22
      clear F22
      clear hb5
      go_wp2
      go_ret
      exact ⟨rfl, HB.out⟩

theorem graphUnder_walk (H : GraphOk) (A : Option Addr) (n c : Nat) (g : Gr) (a b : Int) (w : World) (hr : RG w w.heap.size A n g) (hnil : A = none → c = 0) (hnc : n ≤ c) (hn : n ≤ maxLen) (hG : Glob w) :
    Calls Try.prog 4 #[.slice A n c, .int .i64 a, .int .i64 b] w fun e w' => e = .returned (.bool true) ∧ Below w.heap.size w w' := by
  by_cases h60 : 60 < n
  · exact graphUnder_long H A n c a b w h60 hn hG
  · have hg : GAsk w A n c g := ⟨hr, hnil, hnc, by omega⟩
    have h60' : n ≤ 60 := by omega
    cases hgr : rightG g with
    | false => exact graphUnder_none H A n c g a b w hg h60' hG hgr
    | true =>
      by_cases h1 : a < 0
      · exact graphUnder_a0 H A n c g a b w hg h60' hG hgr h1
      · by_cases h2 : b < 0
        · exact graphUnder_b0 H A n c g a b w hg h60' hG hgr h1 h2
        · by_cases h3 : (n : Int) ≤ a
          · exact graphUnder_a9 H A n c g a b w hg h60' hG hgr h1 h2 h3
          · by_cases h4 : (n : Int) ≤ b
            · exact graphUnder_b9 H A n c g a b w hg h60' hG hgr h1 h2 h3 h4
            · obtain ⟨x, rfl⟩ : ∃ x : Nat, a = (x : Int) := ⟨a.toNat, by omega⟩
              obtain ⟨y, rfl⟩ : ∃ y : Nat, b = (y : Int) := ⟨b.toNat, by omega⟩
              have hl := hr.len
              have hT := under_two hgr (a := x) (b := y) (by omega) (by omega)
              cases hp1 : partB (underL g (x : Int)) (underL g (y : Int)) with
              | true => exact graphUnder_in0 H A n c g x y w hg h60' hG hgr (by omega) (by omega) hp1
              | false =>
                cases hp2 : partB (underL g (y : Int)) (underL g (x : Int)) with
                | true => exact graphUnder_in1 H A n c g x y w hg h60' hG hgr (by omega) (by omega) hp1 hp2
                | false =>
                  rw [hp1, hp2] at hT
                  exact graphUnder_in2 H A n c g x y w hg h60' hG hgr (by omega) (by omega) hp1 hp2 (by rcases hT with h | h | h <;> first | exact h | cases h)

end Go.Proofs.Ytokjinihdanhbaa
