/- What the reference's Which answers: of two lists of int, the numbers that are in either, in both, or in the first alone. -/
import Derived.Test.YtglboolijhekkaaMg05
namespace Go.Proofs.Ytglboolijhekkaa
open Go.RowKit

theorem inB_eq (xs : List Int) (v : Int) : xs.contains v = inB xs v := rfl
theorem pickN_yes {p : Int → Bool} {k : Nat} (h : p (k : Int) = true) : pickN p 0 (k + 1) = pickN p 0 k ++ [(k : Int)] := by
  rw [pickN_snoc, Nat.zero_add, if_pos h]
theorem pickN_no {p : Int → Bool} {k : Nat} (h : p (k : Int) = false) : pickN p 0 (k + 1) = pickN p 0 k := by
  rw [pickN_snoc, Nat.zero_add, h]; simp

/-- where the loop stands -/
def WhichRel (p : Int → Bool) (w : World) (v i : Value) (wr : World) : Prop :=
  ∃ k : Nat, k ≤ 256 ∧ i = .int .i64 k ∧ wr.ownsRow w.heap.size 3 1 v (pickN p 0 k).length ((pickN p 0 k).map (Value.int .i64)) ∧ Below w.heap.size w wr

theorem which_step {p : Int → Bool} {w wr w1 : World} {v v' : Value} {k : Nat} {o : Obj} (hk : k < 256) (hp : p (k : Int) = true) (hb : Below w.heap.size w wr)
    (hown : wr.ownsRow w.heap.size 3 1 v (pickN p 0 k).length ((pickN p 0 k).map (Value.int .i64)))
    (hown' : w1.ownsRow w.heap.size 3 1 v' ((pickN p 0 k).length + 1) ((pickN p 0 k).map (Value.int .i64) ++ [.int .i64 (k : Int)])) (hgrow : (wr.alloc o).grownBy w1 v.ownBlock) :
    WhichRel p w v' (.int .i64 ((k : Int) + 1)) w1 := by
  refine ⟨k + 1, by omega, by go_num, ?_, (hb.alloc hb.size o).grown hgrow (by have := hb.size; simp; omega) (fun j hj => (hown.lt j hj).1)⟩
  rw [pickN_yes hp, List.length_append, List.map_append]
  exact hown'

set_option maxRecDepth 100000 in
set_option maxHeartbeats 4000000 in
theorem which_0 (A A' : Option Addr) (n c n' c' : Nat) (xs ys : List Int) (w : World) (hr : RI w w.heap.size A n xs) (hr' : RI w w.heap.size A' n' ys) (hn : n ≤ maxLen) (hn' : n' ≤ maxLen) (hx : rightB xs = true) (hy : rightB ys = true) :
    Calls Try.prog 26 #[.slice A n c, .slice A' n' c', .int .i64 0] w (Gives (whichL 0 xs ys) w) := by
  have HX := Lib.hid hx
  have HY := Lib.hid hy
  have HL : Hid (whichL 0 xs ys = pickL (keeps 0 xs ys)) := Lib.hid (by unfold whichL; rw [hx, hy]; rfl)
  clear hx hy
  obtain ⟨i0, hi, hz0, hz1, hz2⟩ := info_parts int_info
  go_enter Try.func26, Try.ntmps26
  go_wp2_with fail
  refine (refRight_any _ _ _ xs _ _ hr hn).mono ?_
  rintro e w1 ⟨rfl, q1, rfl⟩
  rw [HX.out]
  go_wp2_with fail
  refine (refRight_any _ _ _ ys _ _ (hr'.drewN q1) hn').mono ?_
  rintro e w1 ⟨rfl, q2, rfl⟩
  rw [HY.out]
  go_wp2
  go_loopw [7, 8] (fun v i wr => WhichRel (keeps 0 xs ys) w v i wr) (fun _ i _ => 256 - (intOf i).toNat)
  case atStart => exact ⟨0, by omega, rfl, World.ownsRow_nil _ _ _ _, ⟨rfl, rfl, rfl, Nat.le_refl _, fun _ _ => rfl⟩⟩
  case round =>
    obtain ⟨k, hk, rfl, hown, hb⟩ := hrel
    by_cases hlt : k < 256
    · have hd : decide ((k : Int) < 256) = true := by simp; omega
      have hlen := pickN_len (keeps 0 xs ys) k
      have hr1 := Lib.hid (hr.below hb)
      have hr2 := Lib.hid (hr'.below hb)
      have HK : Hid (keeps 0 xs ys (k : Int) = (inB xs k || inB ys k)) := Lib.hid rfl
      clear hr hr'
      go_wp2_with fail
      refine (in_any _ _ _ xs _ _ _ hr1.out hn).mono ?_
      rintro e w1 ⟨rfl, rfl⟩
      go_wp2_with fail
      refine (in_any _ _ _ ys _ _ _ hr2.out hn').mono ?_
      rintro e w1 ⟨rfl, rfl⟩
      have hstep := Lib.hid (fun hp w1 v' o a b => @which_step (keeps 0 xs ys) w wr w1 _ v' k o hlt hp hb hown a b)
      have hskip : Hid (keeps 0 xs ys (k : Int) = false → pickN (keeps 0 xs ys) 0 (k + 1) = pickN (keeps 0 xs ys) 0 k) := Lib.hid pickN_no
      generalize inB xs k = x at *
      generalize inB ys k = y at *
      generalize keeps 0 xs ys (k : Int) = z at *
      generalize pickN (keeps 0 xs ys) 0 k = L at *
      rcases x with _ | _ <;> rcases y with _ | _
      · have hz : z = false := HK.out
        subst hz
        have hp := Lib.hid (hskip.out rfl)
        clear hskip hstep
        go_wp2
        go_roundw
        case rel => exact ⟨k + 1, by omega, by go_num, by rw [hp.out]; exact hown, hb⟩
        case measure => simp [intOf]; omega
      · have hz : z = true := HK.out
        subst hz
        go_wp2_with (at_builtin; refine wpList_append_own _ rfl (.tmp 58) (.tmp 60) 23 rfl w.heap.size 3 i0 (.int .i64 0) 1 8 Try.underlying23 hi hz0 hz1 hz2 rfl (by decide) _ _ _ rfl (hown.alloc _) ⟨wr.heap.size, 0, none⟩ 1 1 [.int .i64 (k : Int)] rfl rfl (by intro j u hj; match j, hj with | 0, hj => simp at hj; subst hj; simp [Addr.add]) (by intro u hu; simp at hu; subst hu; rfl) (by unfold maxLen; omega) (by omega) (by have := hb.size; simp; omega) ?_; intro v' w2 hown' hgrow _; refine Hid.out ?_)
        refine Lib.hid ?_
        have R := Lib.hid (hstep.out (by first | rfl | trivial) w2 v' _ hown' hgrow)
        clear hown' hgrow hskip hstep
        go_wp2
        go_roundw
        case rel => exact R.out
        case measure => simp [intOf]; omega
      · have hz : z = true := HK.out
        subst hz
        go_wp2_with (at_builtin; refine wpList_append_own _ rfl (.tmp 58) (.tmp 60) 23 rfl w.heap.size 3 i0 (.int .i64 0) 1 8 Try.underlying23 hi hz0 hz1 hz2 rfl (by decide) _ _ _ rfl (hown.alloc _) ⟨wr.heap.size, 0, none⟩ 1 1 [.int .i64 (k : Int)] rfl rfl (by intro j u hj; match j, hj with | 0, hj => simp at hj; subst hj; simp [Addr.add]) (by intro u hu; simp at hu; subst hu; rfl) (by unfold maxLen; omega) (by omega) (by have := hb.size; simp; omega) ?_; intro v' w2 hown' hgrow _; refine Hid.out ?_)
        refine Lib.hid ?_
        have R := Lib.hid (hstep.out (by first | rfl | trivial) w2 v' _ hown' hgrow)
        clear hown' hgrow hskip hstep
        go_wp2
        go_roundw
        case rel => exact R.out
        case measure => simp [intOf]; omega
      · have hz : z = true := HK.out
        subst hz
        go_wp2_with (at_builtin; refine wpList_append_own _ rfl (.tmp 58) (.tmp 60) 23 rfl w.heap.size 3 i0 (.int .i64 0) 1 8 Try.underlying23 hi hz0 hz1 hz2 rfl (by decide) _ _ _ rfl (hown.alloc _) ⟨wr.heap.size, 0, none⟩ 1 1 [.int .i64 (k : Int)] rfl rfl (by intro j u hj; match j, hj with | 0, hj => simp at hj; subst hj; simp [Addr.add]) (by intro u hu; simp at hu; subst hu; rfl) (by unfold maxLen; omega) (by omega) (by have := hb.size; simp; omega) ?_; intro v' w2 hown' hgrow _; refine Hid.out ?_)
        refine Lib.hid ?_
        have R := Lib.hid (hstep.out (by first | rfl | trivial) w2 v' _ hown' hgrow)
        clear hown' hgrow hskip hstep
        go_wp2
        go_roundw
        case rel => exact R.out
        case measure => simp [intOf]; omega
    · have hkn : k = 256 := by omega
      subst hkn
      go_wp2
      go_ret
      rw [HL.out]
      exact gives_of_own hown hb

set_option maxRecDepth 100000 in
set_option maxHeartbeats 4000000 in
theorem which_1 (A A' : Option Addr) (n c n' c' : Nat) (xs ys : List Int) (w : World) (hr : RI w w.heap.size A n xs) (hr' : RI w w.heap.size A' n' ys) (hn : n ≤ maxLen) (hn' : n' ≤ maxLen) (hx : rightB xs = true) (hy : rightB ys = true) :
    Calls Try.prog 26 #[.slice A n c, .slice A' n' c', .int .i64 1] w (Gives (whichL 1 xs ys) w) := by
  have HX := Lib.hid hx
  have HY := Lib.hid hy
  have HL : Hid (whichL 1 xs ys = pickL (keeps 1 xs ys)) := Lib.hid (by unfold whichL; rw [hx, hy]; rfl)
  clear hx hy
  obtain ⟨i0, hi, hz0, hz1, hz2⟩ := info_parts int_info
  go_enter Try.func26, Try.ntmps26
  go_wp2_with fail
  refine (refRight_any _ _ _ xs _ _ hr hn).mono ?_
  rintro e w1 ⟨rfl, q1, rfl⟩
  rw [HX.out]
  go_wp2_with fail
  refine (refRight_any _ _ _ ys _ _ (hr'.drewN q1) hn').mono ?_
  rintro e w1 ⟨rfl, q2, rfl⟩
  rw [HY.out]
  go_wp2
  go_loopw [7, 8] (fun v i wr => WhichRel (keeps 1 xs ys) w v i wr) (fun _ i _ => 256 - (intOf i).toNat)
  case atStart => exact ⟨0, by omega, rfl, World.ownsRow_nil _ _ _ _, ⟨rfl, rfl, rfl, Nat.le_refl _, fun _ _ => rfl⟩⟩
  case round =>
    obtain ⟨k, hk, rfl, hown, hb⟩ := hrel
    by_cases hlt : k < 256
    · have hd : decide ((k : Int) < 256) = true := by simp; omega
      have hlen := pickN_len (keeps 1 xs ys) k
      have hr1 := Lib.hid (hr.below hb)
      have hr2 := Lib.hid (hr'.below hb)
      have HK : Hid (keeps 1 xs ys (k : Int) = (inB xs k && inB ys k)) := Lib.hid rfl
      clear hr hr'
      go_wp2_with fail
      refine (in_any _ _ _ xs _ _ _ hr1.out hn).mono ?_
      rintro e w1 ⟨rfl, rfl⟩
      go_wp2_with fail
      refine (in_any _ _ _ ys _ _ _ hr2.out hn').mono ?_
      rintro e w1 ⟨rfl, rfl⟩
      have hstep := Lib.hid (fun hp w1 v' o a b => @which_step (keeps 1 xs ys) w wr w1 _ v' k o hlt hp hb hown a b)
      have hskip : Hid (keeps 1 xs ys (k : Int) = false → pickN (keeps 1 xs ys) 0 (k + 1) = pickN (keeps 1 xs ys) 0 k) := Lib.hid pickN_no
      generalize inB xs k = x at *
      generalize inB ys k = y at *
      generalize keeps 1 xs ys (k : Int) = z at *
      generalize pickN (keeps 1 xs ys) 0 k = L at *
      rcases x with _ | _ <;> rcases y with _ | _
      · have hz : z = false := HK.out
        subst hz
        have hp := Lib.hid (hskip.out rfl)
        clear hskip hstep
        go_wp2
        go_roundw
        case rel => exact ⟨k + 1, by omega, by go_num, by rw [hp.out]; exact hown, hb⟩
        case measure => simp [intOf]; omega
      · have hz : z = false := HK.out
        subst hz
        have hp := Lib.hid (hskip.out rfl)
        clear hskip hstep
        go_wp2
        go_roundw
        case rel => exact ⟨k + 1, by omega, by go_num, by rw [hp.out]; exact hown, hb⟩
        case measure => simp [intOf]; omega
      · have hz : z = false := HK.out
        subst hz
        have hp := Lib.hid (hskip.out rfl)
        clear hskip hstep
        go_wp2
        go_roundw
        case rel => exact ⟨k + 1, by omega, by go_num, by rw [hp.out]; exact hown, hb⟩
        case measure => simp [intOf]; omega
      · have hz : z = true := HK.out
        subst hz
        go_wp2_with (at_builtin; refine wpList_append_own _ rfl (.tmp 58) (.tmp 60) 23 rfl w.heap.size 3 i0 (.int .i64 0) 1 8 Try.underlying23 hi hz0 hz1 hz2 rfl (by decide) _ _ _ rfl (hown.alloc _) ⟨wr.heap.size, 0, none⟩ 1 1 [.int .i64 (k : Int)] rfl rfl (by intro j u hj; match j, hj with | 0, hj => simp at hj; subst hj; simp [Addr.add]) (by intro u hu; simp at hu; subst hu; rfl) (by unfold maxLen; omega) (by omega) (by have := hb.size; simp; omega) ?_; intro v' w2 hown' hgrow _; refine Hid.out ?_)
        refine Lib.hid ?_
        have R := Lib.hid (hstep.out (by first | rfl | trivial) w2 v' _ hown' hgrow)
        clear hown' hgrow hskip hstep
        go_wp2
        go_roundw
        case rel => exact R.out
        case measure => simp [intOf]; omega
    · have hkn : k = 256 := by omega
      subst hkn
      go_wp2
      go_ret
      rw [HL.out]
      exact gives_of_own hown hb

set_option maxRecDepth 100000 in
set_option maxHeartbeats 4000000 in
theorem which_2 (A A' : Option Addr) (n c n' c' : Nat) (xs ys : List Int) (w : World) (hr : RI w w.heap.size A n xs) (hr' : RI w w.heap.size A' n' ys) (hn : n ≤ maxLen) (hn' : n' ≤ maxLen) (hx : rightB xs = true) (hy : rightB ys = true) :
    Calls Try.prog 26 #[.slice A n c, .slice A' n' c', .int .i64 2] w (Gives (whichL 2 xs ys) w) := by
  have HX := Lib.hid hx
  have HY := Lib.hid hy
  have HL : Hid (whichL 2 xs ys = pickL (keeps 2 xs ys)) := Lib.hid (by unfold whichL; rw [hx, hy]; rfl)
  clear hx hy
  obtain ⟨i0, hi, hz0, hz1, hz2⟩ := info_parts int_info
  go_enter Try.func26, Try.ntmps26
  go_wp2_with fail
  refine (refRight_any _ _ _ xs _ _ hr hn).mono ?_
  rintro e w1 ⟨rfl, q1, rfl⟩
  rw [HX.out]
  go_wp2_with fail
  refine (refRight_any _ _ _ ys _ _ (hr'.drewN q1) hn').mono ?_
  rintro e w1 ⟨rfl, q2, rfl⟩
  rw [HY.out]
  go_wp2
  go_loopw [7, 8] (fun v i wr => WhichRel (keeps 2 xs ys) w v i wr) (fun _ i _ => 256 - (intOf i).toNat)
  case atStart => exact ⟨0, by omega, rfl, World.ownsRow_nil _ _ _ _, ⟨rfl, rfl, rfl, Nat.le_refl _, fun _ _ => rfl⟩⟩
  case round =>
    obtain ⟨k, hk, rfl, hown, hb⟩ := hrel
    by_cases hlt : k < 256
    · have hd : decide ((k : Int) < 256) = true := by simp; omega
      have hlen := pickN_len (keeps 2 xs ys) k
      have hr1 := Lib.hid (hr.below hb)
      have hr2 := Lib.hid (hr'.below hb)
      have HK : Hid (keeps 2 xs ys (k : Int) = (inB xs k && !inB ys k)) := Lib.hid rfl
      clear hr hr'
      go_wp2_with fail
      refine (in_any _ _ _ xs _ _ _ hr1.out hn).mono ?_
      rintro e w1 ⟨rfl, rfl⟩
      go_wp2_with fail
      refine (in_any _ _ _ ys _ _ _ hr2.out hn').mono ?_
      rintro e w1 ⟨rfl, rfl⟩
      have hstep := Lib.hid (fun hp w1 v' o a b => @which_step (keeps 2 xs ys) w wr w1 _ v' k o hlt hp hb hown a b)
      have hskip : Hid (keeps 2 xs ys (k : Int) = false → pickN (keeps 2 xs ys) 0 (k + 1) = pickN (keeps 2 xs ys) 0 k) := Lib.hid pickN_no
      generalize inB xs k = x at *
      generalize inB ys k = y at *
      generalize keeps 2 xs ys (k : Int) = z at *
      generalize pickN (keeps 2 xs ys) 0 k = L at *
      rcases x with _ | _ <;> rcases y with _ | _
      · have hz : z = false := HK.out
        subst hz
        have hp := Lib.hid (hskip.out rfl)
        clear hskip hstep
        go_wp2
        go_roundw
        case rel => exact ⟨k + 1, by omega, by go_num, by rw [hp.out]; exact hown, hb⟩
        case measure => simp [intOf]; omega
      · have hz : z = false := HK.out
        subst hz
        have hp := Lib.hid (hskip.out rfl)
        clear hskip hstep
        go_wp2
        go_roundw
        case rel => exact ⟨k + 1, by omega, by go_num, by rw [hp.out]; exact hown, hb⟩
        case measure => simp [intOf]; omega
      · have hz : z = true := HK.out
        subst hz
        go_wp2_with (at_builtin; refine wpList_append_own _ rfl (.tmp 58) (.tmp 60) 23 rfl w.heap.size 3 i0 (.int .i64 0) 1 8 Try.underlying23 hi hz0 hz1 hz2 rfl (by decide) _ _ _ rfl (hown.alloc _) ⟨wr.heap.size, 0, none⟩ 1 1 [.int .i64 (k : Int)] rfl rfl (by intro j u hj; match j, hj with | 0, hj => simp at hj; subst hj; simp [Addr.add]) (by intro u hu; simp at hu; subst hu; rfl) (by unfold maxLen; omega) (by omega) (by have := hb.size; simp; omega) ?_; intro v' w2 hown' hgrow _; refine Hid.out ?_)
        refine Lib.hid ?_
        have R := Lib.hid (hstep.out (by first | rfl | trivial) w2 v' _ hown' hgrow)
        clear hown' hgrow hskip hstep
        go_wp2
        go_roundw
        case rel => exact R.out
        case measure => simp [intOf]; omega
      · have hz : z = false := HK.out
        subst hz
        have hp := Lib.hid (hskip.out rfl)
        clear hskip hstep
        go_wp2
        go_roundw
        case rel => exact ⟨k + 1, by omega, by go_num, by rw [hp.out]; exact hown, hb⟩
        case measure => simp [intOf]; omega
    · have hkn : k = 256 := by omega
      subst hkn
      go_wp2
      go_ret
      rw [HL.out]
      exact gives_of_own hown hb

theorem which_no (how : Int) (A A' : Option Addr) (n c n' c' : Nat) (xs ys : List Int) (w : World) (hr : RI w w.heap.size A n xs) (hr' : RI w w.heap.size A' n' ys) (hn : n ≤ maxLen) (hn' : n' ≤ maxLen) (hno : (rightB xs && rightB ys) = false) :
    Calls Try.prog 26 #[.slice A n c, .slice A' n' c', .int .i64 how] w (Gives [] w) := by
  have HN := Lib.hid hno
  clear hno
  go_enter Try.func26, Try.ntmps26
  go_wp2_with fail
  refine (refRight_any _ _ _ xs _ _ hr hn).mono ?_
  rintro e w1 ⟨rfl, q1, rfl⟩
  cases hx : rightB xs with
  | false =>
    clear hx
    go_wp2
    go_ret
    exact ⟨⟨none, 0, Nat.le_refl _, rfl, RI.nil⟩, ⟨rfl, rfl, rfl, Nat.le_refl _, fun _ _ => rfl⟩⟩
  | true =>
    have hy : Hid (rightB ys = false) := Lib.hid (by have := HN.out; rw [hx] at this; simpa using this)
    clear hx
    go_wp2_with fail
    refine (refRight_any _ _ _ ys _ _ (hr'.drewN q1) hn').mono ?_
    rintro e w1 ⟨rfl, q2, rfl⟩
    rw [hy.out]
    go_wp2
    go_ret
    exact ⟨⟨none, 0, Nat.le_refl _, rfl, RI.nil⟩, ⟨rfl, rfl, rfl, Nat.le_refl _, fun _ _ => rfl⟩⟩

theorem which_any (how : Nat) (h : Int) (hhow : (how = 0 ∧ h = 0) ∨ (how = 1 ∧ h = 1) ∨ (how = 2 ∧ h = 2)) (A A' : Option Addr) (n c n' c' : Nat) (xs ys : List Int) (w : World) (hr : RI w w.heap.size A n xs) (hr' : RI w w.heap.size A' n' ys) (hn : n ≤ maxLen) (hn' : n' ≤ maxLen) :
    Calls Try.prog 26 #[.slice A n c, .slice A' n' c', .int .i64 h] w (Gives (whichL how xs ys) w) := by
  by_cases hxy : (rightB xs && rightB ys) = true
  · have hxy' : rightB xs = true ∧ rightB ys = true := by simpa using hxy
    rcases hhow with ⟨rfl, rfl⟩ | ⟨rfl, rfl⟩ | ⟨rfl, rfl⟩
    · exact which_0 A A' n c n' c' xs ys w hr hr' hn hn' hxy'.1 hxy'.2
    · exact which_1 A A' n c n' c' xs ys w hr hr' hn hn' hxy'.1 hxy'.2
    · exact which_2 A A' n c n' c' xs ys w hr hr' hn hn' hxy'.1 hxy'.2
  · rw [whichL_wrong (by simpa using hxy)]
    exact which_no h A A' n c n' c' xs ys w hr hr' hn hn' (by simpa using hxy)

end Go.Proofs.Ytglboolijhekkaa
