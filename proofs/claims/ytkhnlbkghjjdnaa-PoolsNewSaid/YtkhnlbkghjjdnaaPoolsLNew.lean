/- The statement PoolsNew, as a walk over the contracts: of any amounts and time the call returns true. -/
import Derived.Test.YtkhnlbkghjjdnaaPoolsAwake
import Derived.Test.YtkhnlbkghjjdnaaPoolsLaws
namespace Go.Proofs.Ytkhnlbkghjjdnaa
open Go.RowKit

set_option maxRecDepth 100000 in
set_option maxHeartbeats 4000000 in
theorem poolsNew_bad (H : PoolsOk) (A : Option Addr) (n c : Nat) (xs : List Int) (t : Int) (w : World) (hr : RI w w.heap.size A n xs) (hn : n ≤ maxLen) (hx : ∀ x ∈ xs, I64 x) (hnew : newPP xs = ([], 1)) (hfr : freeOk n xs n = false) :
    Calls Try.prog 4 #[.slice A n c, .int .i64 t] w fun e w' => e = .returned (.bool true) ∧ Below w.heap.size w w' := by
  have HM := Lib.hid hn
  unfold maxLen at hn
  have FR := Lib.hid hr
  have HX := Lib.hid hx
  have HNEW := Lib.hid hnew
  have HFR := Lib.hid hfr
  have HB := Lib.hid (Below.refl w.heap.size w)
  clear hr hx hnew hfr
  have h0 : Hid (freeOk n xs 0 = decide (1 ≤ n ∧ n ≤ 4)) := Lib.hid (by unfold freeOk; simp)
  go_enter Try.func4, Try.ntmps4
  go_wp2_with fail
  refine (poolsAwake_any H _).mono ?_
  rintro e w1 ⟨rfl, hb1⟩
  have hBz := HB.out.size
  have HB2 := Lib.hid (HB.out.trans (hb1.mono hBz))
  clear HB hBz
  have HB := HB2
  clear HB2
  have FR2 := Lib.hid (FR.out.next hb1)
  clear FR
  have FR := FR2
  clear FR2
  clear hb1
  go_wp2_with fail
  refine (calls_ppost (H.new _ _ _ _ _ FR.out HM.out HX.out) HNEW.out).mono ?_
  rintro e w2 ⟨⟨A2, c2, rfl, hr2, hnil2, hc2⟩, hb2⟩
  have hBz := HB.out.size
  have HB2 := Lib.hid (HB.out.trans (hb2.mono hBz))
  clear HB hBz
  have HB := HB2
  clear HB2
  have FR2 := Lib.hid (FR.out.next hb2)
  clear FR
  have FR := FR2
  clear FR2
  clear hb2
  have F1 := Lib.hid hr2
  have F1c := Lib.hid hc2
  have F1z := Lib.hid hnil2
  clear hr2 hc2 hnil2
  go_upto_region 4 with fail
  go_cut [7] (fun s wx => s = .bool (freeOk n xs 0) ∧ wx = w2)
  case first =>
    by_cases h1 : 1 ≤ n
    · by_cases h4 : n ≤ 4
      · have e : Hid (freeOk n xs 0 = true) := Lib.hid (by rw [h0.out]; exact decide_eq_true ⟨h1, h4⟩)
        have h4d : decide ((n : Int) ≤ 4) = true := by simp; omega
        go_wp2
        go_meet
        exact ⟨congrArg Value.bool e.out.symm, rfl⟩
      · have e : Hid (freeOk n xs 0 = false) := Lib.hid (by rw [h0.out]; exact decide_eq_false (fun h => h4 h.2))
        have h4d : decide ((n : Int) ≤ 4) = false := by simp; omega
        go_wp2
        go_meet
        exact ⟨congrArg Value.bool e.out.symm, rfl⟩
    · have e : Hid (freeOk n xs 0 = false) := Lib.hid (by rw [h0.out]; exact decide_eq_false (fun h => h1 h.1))
      have h1d : decide (1 ≤ (n : Int)) = false := by simp; omega
      go_wp2
      go_meet
      exact ⟨congrArg Value.bool e.out.symm, rfl⟩
  case rest =>
  obtain ⟨rfl, hw⟩ := hcut
  subst hw
  go_wp2_with fail
  go_loop [7, 8] (fun o i => ∃ k : Nat, k ≤ n ∧ i = .int .i64 k ∧ o = .bool (freeOk n xs k)) (fun _ i => n - (intOf i).toNat)
  case atStart => exact ⟨0, Nat.zero_le _, rfl, rfl⟩
  case round =>
    obtain ⟨k, hk, rfl, rfl⟩ := hrel
    by_cases hlt : k < n
    · obtain ⟨b, off, rfl, _, hc⟩ := FR.out.one hlt
      have hsu : Hid (freeOk n xs (k + 1) = (freeOk n xs k && decide (0 ≤ xs.getD k 0) && decide (xs.getD k 0 ≤ 1048576))) := Lib.hid freeOk_succ
      generalize xs.getD k 0 = x at *
      generalize freeOk n xs k = o at *
      cases o with
      | false =>
        have e : Hid (freeOk n xs (k + 1) = false) := Lib.hid (by rw [hsu.out]; rfl)
        clear hsu
        go_wp2
        go_round
        case rel => exact ⟨k + 1, by omega, by go_num, congrArg Value.bool e.out.symm⟩
        case measure => simp [intOf]; omega
      | true =>
        by_cases g1 : 0 ≤ x
        · by_cases g2 : x ≤ 1048576
          · have e : Hid (freeOk n xs (k + 1) = true) := Lib.hid (by rw [hsu.out, decide_eq_true g1, decide_eq_true g2]; rfl)
            clear hsu
            go_wp2
            go_round
            case rel => exact ⟨k + 1, by omega, by go_num, congrArg Value.bool e.out.symm⟩
            case measure => simp [intOf]; omega
          · have e : Hid (freeOk n xs (k + 1) = false) := Lib.hid (by rw [hsu.out, decide_eq_true g1, decide_eq_false g2]; rfl)
            have g2d : decide (x ≤ 1048576) = false := by simpa using g2
            clear hsu
            go_wp2
            go_round
            case rel => exact ⟨k + 1, by omega, by go_num, congrArg Value.bool e.out.symm⟩
            case measure => simp [intOf]; omega
        · have e : Hid (freeOk n xs (k + 1) = false) := Lib.hid (by rw [hsu.out, decide_eq_false g1]; rfl)
          have g1d : decide (0 ≤ x) = false := by simpa using g1
          clear hsu
          go_wp2
          go_round
          case rel => exact ⟨k + 1, by omega, by go_num, congrArg Value.bool e.out.symm⟩
          case measure => simp [intOf]; omega
    · obtain rfl : n = k := by omega
      rw [HFR.out]
      go_wp2
      go_ret
      exact ⟨rfl, HB.out⟩
set_option maxRecDepth 100000 in
set_option maxHeartbeats 4000000 in
theorem poolsNew_notime (H : PoolsOk) (A : Option Addr) (n c : Nat) (xs : List Int) (t : Int) (w : World) (hr : RI w w.heap.size A n xs) (hn : n ≤ maxLen) (hx : ∀ x ∈ xs, I64 x) (L : List (List (Int × Int))) (hnew : newPP xs = (L, 0)) (hfr : freeOk n xs n = true) (hki : L.length ≤ 10) (hst : ∀ j, j < L.length → (L.getD j []).length ≤ 1100) (hrp : rightPP L = true) (htb : timeB t = false) :
    Calls Try.prog 4 #[.slice A n c, .int .i64 t] w fun e w' => e = .returned (.bool true) ∧ Below w.heap.size w w' := by
  have HM := Lib.hid hn
  unfold maxLen at hn
  have FR := Lib.hid hr
  have HX := Lib.hid hx
  have HNEW := Lib.hid hnew
  have HFR := Lib.hid hfr
  have HB := Lib.hid (Below.refl w.heap.size w)
  have HKI := Lib.hid hki
  have HST := Lib.hid hst
  have HRP := Lib.hid hrp
  have HTB := Lib.hid htb
  clear hr hx hnew hfr hki hst hrp htb
  have h0 : Hid (freeOk n xs 0 = decide (1 ≤ n ∧ n ≤ 4)) := Lib.hid (by unfold freeOk; simp)
  go_enter Try.func4, Try.ntmps4
  go_wp2_with fail
  refine (poolsAwake_any H _).mono ?_
  rintro e w1 ⟨rfl, hb1⟩
  have hBz := HB.out.size
  have HB2 := Lib.hid (HB.out.trans (hb1.mono hBz))
  clear HB hBz
  have HB := HB2
  clear HB2
  have FR2 := Lib.hid (FR.out.next hb1)
  clear FR
  have FR := FR2
  clear FR2
  clear hb1
  go_wp2_with fail
  refine (calls_ppost (H.new _ _ _ _ _ FR.out HM.out HX.out) HNEW.out).mono ?_
  rintro e w2 ⟨⟨A2, c2, rfl, hr2, hnil2, hc2⟩, hb2⟩
  have hBz := HB.out.size
  have HB2 := Lib.hid (HB.out.trans (hb2.mono hBz))
  clear HB hBz
  have HB := HB2
  clear HB2
  have FR2 := Lib.hid (FR.out.next hb2)
  clear FR
  have FR := FR2
  clear FR2
  clear hb2
  have F1 := Lib.hid (show PAsk w2 A2 _ c2 _ from ⟨hr2, hnil2, hc2, HKI.out, HST.out⟩)
  clear hr2 hnil2 hc2
  go_upto_region 4 with fail
  go_cut [7] (fun s wx => s = .bool (freeOk n xs 0) ∧ wx = w2)
  case first =>
    by_cases h1 : 1 ≤ n
    · by_cases h4 : n ≤ 4
      · have e : Hid (freeOk n xs 0 = true) := Lib.hid (by rw [h0.out]; exact decide_eq_true ⟨h1, h4⟩)
        have h4d : decide ((n : Int) ≤ 4) = true := by simp; omega
        go_wp2
        go_meet
        exact ⟨congrArg Value.bool e.out.symm, rfl⟩
      · have e : Hid (freeOk n xs 0 = false) := Lib.hid (by rw [h0.out]; exact decide_eq_false (fun h => h4 h.2))
        have h4d : decide ((n : Int) ≤ 4) = false := by simp; omega
        go_wp2
        go_meet
        exact ⟨congrArg Value.bool e.out.symm, rfl⟩
    · have e : Hid (freeOk n xs 0 = false) := Lib.hid (by rw [h0.out]; exact decide_eq_false (fun h => h1 h.1))
      have h1d : decide (1 ≤ (n : Int)) = false := by simp; omega
      go_wp2
      go_meet
      exact ⟨congrArg Value.bool e.out.symm, rfl⟩
  case rest =>
  obtain ⟨rfl, hw⟩ := hcut
  subst hw
  go_wp2_with fail
  go_loop [7, 8] (fun o i => ∃ k : Nat, k ≤ n ∧ i = .int .i64 k ∧ o = .bool (freeOk n xs k)) (fun _ i => n - (intOf i).toNat)
  case atStart => exact ⟨0, Nat.zero_le _, rfl, rfl⟩
  case round =>
    obtain ⟨k, hk, rfl, rfl⟩ := hrel
    by_cases hlt : k < n
    · obtain ⟨b, off, rfl, _, hc⟩ := FR.out.one hlt
      have hsu : Hid (freeOk n xs (k + 1) = (freeOk n xs k && decide (0 ≤ xs.getD k 0) && decide (xs.getD k 0 ≤ 1048576))) := Lib.hid freeOk_succ
      generalize xs.getD k 0 = x at *
      generalize freeOk n xs k = o at *
      cases o with
      | false =>
        have e : Hid (freeOk n xs (k + 1) = false) := Lib.hid (by rw [hsu.out]; rfl)
        clear hsu
        go_wp2
        go_round
        case rel => exact ⟨k + 1, by omega, by go_num, congrArg Value.bool e.out.symm⟩
        case measure => simp [intOf]; omega
      | true =>
        by_cases g1 : 0 ≤ x
        · by_cases g2 : x ≤ 1048576
          · have e : Hid (freeOk n xs (k + 1) = true) := Lib.hid (by rw [hsu.out, decide_eq_true g1, decide_eq_true g2]; rfl)
            clear hsu
            go_wp2
            go_round
            case rel => exact ⟨k + 1, by omega, by go_num, congrArg Value.bool e.out.symm⟩
            case measure => simp [intOf]; omega
          · have e : Hid (freeOk n xs (k + 1) = false) := Lib.hid (by rw [hsu.out, decide_eq_true g1, decide_eq_false g2]; rfl)
            have g2d : decide (x ≤ 1048576) = false := by simpa using g2
            clear hsu
            go_wp2
            go_round
            case rel => exact ⟨k + 1, by omega, by go_num, congrArg Value.bool e.out.symm⟩
            case measure => simp [intOf]; omega
        · have e : Hid (freeOk n xs (k + 1) = false) := Lib.hid (by rw [hsu.out, decide_eq_false g1]; rfl)
          have g1d : decide (0 ≤ x) = false := by simpa using g1
          clear hsu
          go_wp2
          go_round
          case rel => exact ⟨k + 1, by omega, by go_num, congrArg Value.bool e.out.symm⟩
          case measure => simp [intOf]; omega
    · obtain rfl : n = k := by omega
      rw [HFR.out]
      go_wp2_with fail
      refine (calls_bool (H.right _ _ _ _ _ F1.out) HRP.out).mono ?_
      rintro e w3 ⟨rfl, hb3⟩
      have hBz := HB.out.size
      have HB2 := Lib.hid (HB.out.trans (hb3.mono hBz))
      clear HB hBz
      have HB := HB2
      clear HB2
      have FR2 := Lib.hid (FR.out.next hb3)
      clear FR
      have FR := FR2
      clear FR2
      have F12 := Lib.hid (F1.out.next hb3)
      clear F1
      have F1 := F12
      clear F12
      clear hb3
      go_wp2_with fail
      refine (whenRight_b t _ _ HTB.out).mono ?_
      rintro e wz ⟨rfl, rfl⟩
      go_wp2
      go_ret
      exact ⟨rfl, HB.out⟩

set_option maxRecDepth 100000 in
set_option maxHeartbeats 4000000 in
theorem poolsNew_time (H : PoolsOk) (A : Option Addr) (n c : Nat) (xs : List Int) (t : Int) (w : World) (hr : RI w w.heap.size A n xs) (hn : n ≤ maxLen) (hx : ∀ x ∈ xs, I64 x) (L : List (List (Int × Int))) (hnew : newPP xs = (L, 0)) (hfr : freeOk n xs n = true) (hki : L.length ≤ 10) (hst : ∀ j, j < L.length → (L.getD j []).length ≤ 1100) (hrp : rightPP L = true) (htb : timeB t = true) (ht : I64 t) (hat : atPP L t = xs) :
    Calls Try.prog 4 #[.slice A n c, .int .i64 t] w fun e w' => e = .returned (.bool true) ∧ Below w.heap.size w w' := by
  have HM := Lib.hid hn
  unfold maxLen at hn
  have FR := Lib.hid hr
  have HX := Lib.hid hx
  have HNEW := Lib.hid hnew
  have HFR := Lib.hid hfr
  have HB := Lib.hid (Below.refl w.heap.size w)
  have HKI := Lib.hid hki
  have HST := Lib.hid hst
  have HRP := Lib.hid hrp
  have HTB := Lib.hid htb
  have HT := Lib.hid ht
  have HAT := Lib.hid hat
  clear hr hx hnew hfr hki hst hrp htb ht hat
  have h0 : Hid (freeOk n xs 0 = decide (1 ≤ n ∧ n ≤ 4)) := Lib.hid (by unfold freeOk; simp)
  go_enter Try.func4, Try.ntmps4
  go_wp2_with fail
  refine (poolsAwake_any H _).mono ?_
  rintro e w1 ⟨rfl, hb1⟩
  have hBz := HB.out.size
  have HB2 := Lib.hid (HB.out.trans (hb1.mono hBz))
  clear HB hBz
  have HB := HB2
  clear HB2
  have FR2 := Lib.hid (FR.out.next hb1)
  clear FR
  have FR := FR2
  clear FR2
  clear hb1
  go_wp2_with fail
  refine (calls_ppost (H.new _ _ _ _ _ FR.out HM.out HX.out) HNEW.out).mono ?_
  rintro e w2 ⟨⟨A2, c2, rfl, hr2, hnil2, hc2⟩, hb2⟩
  have hBz := HB.out.size
  have HB2 := Lib.hid (HB.out.trans (hb2.mono hBz))
  clear HB hBz
  have HB := HB2
  clear HB2
  have FR2 := Lib.hid (FR.out.next hb2)
  clear FR
  have FR := FR2
  clear FR2
  clear hb2
  have F1 := Lib.hid (show PAsk w2 A2 _ c2 _ from ⟨hr2, hnil2, hc2, HKI.out, HST.out⟩)
  clear hr2 hnil2 hc2
  go_upto_region 4 with fail
  go_cut [7] (fun s wx => s = .bool (freeOk n xs 0) ∧ wx = w2)
  case first =>
    by_cases h1 : 1 ≤ n
    · by_cases h4 : n ≤ 4
      · have e : Hid (freeOk n xs 0 = true) := Lib.hid (by rw [h0.out]; exact decide_eq_true ⟨h1, h4⟩)
        have h4d : decide ((n : Int) ≤ 4) = true := by simp; omega
        go_wp2
        go_meet
        exact ⟨congrArg Value.bool e.out.symm, rfl⟩
      · have e : Hid (freeOk n xs 0 = false) := Lib.hid (by rw [h0.out]; exact decide_eq_false (fun h => h4 h.2))
        have h4d : decide ((n : Int) ≤ 4) = false := by simp; omega
        go_wp2
        go_meet
        exact ⟨congrArg Value.bool e.out.symm, rfl⟩
    · have e : Hid (freeOk n xs 0 = false) := Lib.hid (by rw [h0.out]; exact decide_eq_false (fun h => h1 h.1))
      have h1d : decide (1 ≤ (n : Int)) = false := by simp; omega
      go_wp2
      go_meet
      exact ⟨congrArg Value.bool e.out.symm, rfl⟩
  case rest =>
  obtain ⟨rfl, hw⟩ := hcut
  subst hw
  go_wp2_with fail
  go_loop [7, 8] (fun o i => ∃ k : Nat, k ≤ n ∧ i = .int .i64 k ∧ o = .bool (freeOk n xs k)) (fun _ i => n - (intOf i).toNat)
  case atStart => exact ⟨0, Nat.zero_le _, rfl, rfl⟩
  case round =>
    obtain ⟨k, hk, rfl, rfl⟩ := hrel
    by_cases hlt : k < n
    · obtain ⟨b, off, rfl, _, hc⟩ := FR.out.one hlt
      have hsu : Hid (freeOk n xs (k + 1) = (freeOk n xs k && decide (0 ≤ xs.getD k 0) && decide (xs.getD k 0 ≤ 1048576))) := Lib.hid freeOk_succ
      generalize xs.getD k 0 = x at *
      generalize freeOk n xs k = o at *
      cases o with
      | false =>
        have e : Hid (freeOk n xs (k + 1) = false) := Lib.hid (by rw [hsu.out]; rfl)
        clear hsu
        go_wp2
        go_round
        case rel => exact ⟨k + 1, by omega, by go_num, congrArg Value.bool e.out.symm⟩
        case measure => simp [intOf]; omega
      | true =>
        by_cases g1 : 0 ≤ x
        · by_cases g2 : x ≤ 1048576
          · have e : Hid (freeOk n xs (k + 1) = true) := Lib.hid (by rw [hsu.out, decide_eq_true g1, decide_eq_true g2]; rfl)
            clear hsu
            go_wp2
            go_round
            case rel => exact ⟨k + 1, by omega, by go_num, congrArg Value.bool e.out.symm⟩
            case measure => simp [intOf]; omega
          · have e : Hid (freeOk n xs (k + 1) = false) := Lib.hid (by rw [hsu.out, decide_eq_true g1, decide_eq_false g2]; rfl)
            have g2d : decide (x ≤ 1048576) = false := by simpa using g2
            clear hsu
            go_wp2
            go_round
            case rel => exact ⟨k + 1, by omega, by go_num, congrArg Value.bool e.out.symm⟩
            case measure => simp [intOf]; omega
        · have e : Hid (freeOk n xs (k + 1) = false) := Lib.hid (by rw [hsu.out, decide_eq_false g1]; rfl)
          have g1d : decide (0 ≤ x) = false := by simpa using g1
          clear hsu
          go_wp2
          go_round
          case rel => exact ⟨k + 1, by omega, by go_num, congrArg Value.bool e.out.symm⟩
          case measure => simp [intOf]; omega
    · obtain rfl : n = k := by omega
      rw [HFR.out]
      go_wp2_with fail
      refine (calls_bool (H.right _ _ _ _ _ F1.out) HRP.out).mono ?_
      rintro e w3 ⟨rfl, hb3⟩
      have hBz := HB.out.size
      have HB2 := Lib.hid (HB.out.trans (hb3.mono hBz))
      clear HB hBz
      have HB := HB2
      clear HB2
      have FR2 := Lib.hid (FR.out.next hb3)
      clear FR
      have FR := FR2
      clear FR2
      have F12 := Lib.hid (F1.out.next hb3)
      clear F1
      have F1 := F12
      clear F12
      clear hb3
      go_wp2_with fail
      refine (whenRight_b t _ _ HTB.out).mono ?_
      rintro e wz ⟨rfl, rfl⟩
      go_wp2_with fail
      refine (calls_ipost (H.at_ _ _ _ _ t _ F1.out HT.out) HAT.out).mono ?_
      rintro e w4 ⟨⟨A4, c4, rfl, hr4, hnil4, hc4⟩, hb4⟩
      have hBz := HB.out.size
      have HB2 := Lib.hid (HB.out.trans (hb4.mono hBz))
      clear HB hBz
      have HB := HB2
      clear HB2
      have FR2 := Lib.hid (FR.out.next hb4)
      clear FR
      have FR := FR2
      clear FR2
      have F12 := Lib.hid (F1.out.next hb4)
      clear F1
      have F1 := F12
      clear F12
      clear hb4
      have F2 := Lib.hid hr4
      clear hr4 hnil4 hc4
      go_wp2_with fail
      refine (r_same1 F2.out FR.out (by have := FR.out.1; rw [this]; exact HM.out) rfl).mono ?_
      rintro e w5 ⟨rfl, hb5⟩
      have hBz := HB.out.size
      have HB2 := Lib.hid (HB.out.trans (hb5.mono hBz))
      clear HB hBz
      have HB := HB2
      clear HB2
      have FR2 := Lib.hid (FR.out.next hb5)
      clear FR
      have FR := FR2
      clear FR2
      have F12 := Lib.hid (F1.out.next hb5)
      clear F1
      have F1 := F12
      clear F12
      have F22 := Lib.hid (F2.out.next hb5)
      clear F2
      have F2 := F22
      clear F22
      clear hb5
      go_wp2
      go_ret
      exact ⟨rfl, HB.out⟩

theorem poolsNew_walk (H : PoolsOk) (A : Option Addr) (n c : Nat) (xs : List Int) (t : Int) (w : World) (hr : RI w w.heap.size A n xs) (hn : n ≤ maxLen) (hx : ∀ x ∈ xs, I64 x) (ht : I64 t) :
    Calls Try.prog 4 #[.slice A n c, .int .i64 t] w fun e w' => e = .returned (.bool true) ∧ Below w.heap.size w w' := by
  have hl := hr.1
  cases hf : freeOk n xs n with
  | false => exact poolsNew_bad H A n c xs t w hr hn hx (newPP_bad (by rw [hl]; exact hf)) hf
  | true =>
    obtain ⟨h1, h2, h3, h4⟩ := new_facts (xs := xs) (by rw [hl]; exact hf)
    have hnew := newPP_ok (xs := xs) (by rw [hl]; exact hf)
    cases htb : timeB t with
    | false => exact poolsNew_notime H A n c xs t w hr hn hx _ hnew hf h1 h2 h3 htb
    | true => exact poolsNew_time H A n c xs t w hr hn hx _ hnew hf h1 h2 h3 htb ht (h4 t htb)

end Go.Proofs.Ytkhnlbkghjjdnaa
