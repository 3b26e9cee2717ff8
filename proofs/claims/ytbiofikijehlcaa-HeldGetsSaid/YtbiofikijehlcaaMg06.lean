/- What the reference's Which answers: of two lists of int, the numbers that are in either, in both, or in the first alone. The reference's Busy and Short of layer 10. Written by gen/gen_heldref5.py. Words for memory: several elements appended at once to an owned row. General: nothing of the program stands here. Words for memory: all blocks but one are as they were. General: nothing of the program stands here. A row of elements of four cells of one's own: an element is stored; its cells, told flat. A table's clone, a holding's own memory. Go's slices.Clone of numbers, by a walk over its text: a clone lies in memory of its own. -/
import Derived.Test.YtbiofikijehlcaaMg03
import Derived.Test.YtbiofikijehlcaaMg05
import Derived.Test.YtbiofikijehlcaaMg01
import Derived.Lib.SliceRun
import Derived.Laws.OwnMore
import Derived.Test.YtbiofikijehlcaaMg02
import Derived.LoopTactic
import Derived.Deep.QuietTactic
namespace Go.Proofs.Ytbiofikijehlcaa
open Go.RowKit

theorem inB_eq (xs : List Int) (v : Int) : xs.contains v = inB xs v := rfl
theorem pickN_yes {p : Int → Bool} {k : Nat} (h : p (k : Int) = true) : pickN p 0 (k + 1) = pickN p 0 k ++ [(k : Int)] := by
  rw [pickN_snoc, Nat.zero_add, if_pos h]
theorem pickN_no {p : Int → Bool} {k : Nat} (h : p (k : Int) = false) : pickN p 0 (k + 1) = pickN p 0 k := by
  rw [pickN_snoc, Nat.zero_add, h]; simp

/-- where the loop stands -/
def WhichRel (p : Int → Bool) (w : World) (v i : Value) (wr : World) : Prop :=
  ∃ k : Nat, k ≤ 256 ∧ i = .int .i64 k ∧ wr.ownsRow w.heap.size 3 1 v (pickN p 0 k).length ((pickN p 0 k).map (Value.int .i64)) ∧ Below w.heap.size w wr

theorem which_step {p : Int → Bool} {w wr w1 : World} {v v' : Value} {k : Nat} {o : Obj} (hk : k < 256) (hp : p (k : Int) = true) (hb : Below w.heap.size w wr)
    (hown : wr.ownsRow w.heap.size 3 1 v (pickN p 0 k).length ((pickN p 0 k).map (Value.int .i64)))
    (hown' : w1.ownsRow w.heap.size 3 1 v' ((pickN p 0 k).length + 1) ((pickN p 0 k).map (Value.int .i64) ++ [.int .i64 (k : Int)])) (hgrow : (wr.alloc o).grownBy w1 v.ownBlock) :
    WhichRel p w v' (.int .i64 ((k : Int) + 1)) w1 := by
  refine ⟨k + 1, by omega, by go_num, ?_, (hb.alloc hb.size o).grown hgrow (by have := hb.size; simp; omega) (fun j hj => (hown.lt j hj).1)⟩
  rw [pickN_yes hp, List.length_append, List.map_append]
  exact hown'

set_option maxRecDepth 100000 in
set_option maxHeartbeats 4000000 in
theorem which_0 (A A' : Option Addr) (n c n' c' : Nat) (xs ys : List Int) (w : World) (hr : RI w w.heap.size A n xs) (hr' : RI w w.heap.size A' n' ys) (hn : n ≤ maxLen) (hn' : n' ≤ maxLen) (hx : rightB xs = true) (hy : rightB ys = true) :
    Calls Try.prog 32 #[.slice A n c, .slice A' n' c', .int .i64 0] w (Gives (whichL 0 xs ys) w) := by
  have HX := Lib.hid hx
  have HY := Lib.hid hy
  have HL : Hid (whichL 0 xs ys = pickL (keeps 0 xs ys)) := Lib.hid (by unfold whichL; rw [hx, hy]; rfl)
  clear hx hy
  obtain ⟨i0, hi, hz0, hz1, hz2⟩ := info_parts int_info
  go_enter Try.func32, Try.ntmps32
  go_wp2_with fail
  refine (refRight_any _ _ _ xs _ _ hr hn).mono ?_
  rintro e w1 ⟨rfl, q1, rfl⟩
  rw [HX.out]
  go_wp2_with fail
  refine (refRight_any _ _ _ ys _ _ (hr'.drewN q1) hn').mono ?_
  rintro e w1 ⟨rfl, q2, rfl⟩
  rw [HY.out]
  go_wp2
  go_loopw [7, 8] (fun v i wr => WhichRel (keeps 0 xs ys) w v i wr) (fun _ i _ => 256 - (intOf i).toNat)
  case atStart => exact ⟨0, by omega, rfl, World.ownsRow_nil _ _ _ _, ⟨rfl, rfl, rfl, Nat.le_refl _, fun _ _ => rfl⟩⟩
  case round =>
    obtain ⟨k, hk, rfl, hown, hb⟩ := hrel
    by_cases hlt : k < 256
    · have hd : decide ((k : Int) < 256) = true := by simp; omega
      have hlen := pickN_len (keeps 0 xs ys) k
      have hr1 := Lib.hid (hr.below hb)
      have hr2 := Lib.hid (hr'.below hb)
      have HK : Hid (keeps 0 xs ys (k : Int) = (inB xs k || inB ys k)) := Lib.hid rfl
      clear hr hr'
      go_wp2_with fail
      refine (in_any _ _ _ xs _ _ _ hr1.out hn).mono ?_
      rintro e w1 ⟨rfl, rfl⟩
      go_wp2_with fail
      refine (in_any _ _ _ ys _ _ _ hr2.out hn').mono ?_
      rintro e w1 ⟨rfl, rfl⟩
      have hstep := Lib.hid (fun hp w1 v' o a b => @which_step (keeps 0 xs ys) w wr w1 _ v' k o hlt hp hb hown a b)
      have hskip : Hid (keeps 0 xs ys (k : Int) = false → pickN (keeps 0 xs ys) 0 (k + 1) = pickN (keeps 0 xs ys) 0 k) := Lib.hid pickN_no
      generalize inB xs k = x at *
      generalize inB ys k = y at *
      generalize keeps 0 xs ys (k : Int) = z at *
      generalize pickN (keeps 0 xs ys) 0 k = L at *
      rcases x with _ | _ <;> rcases y with _ | _
      · have hz : z = false := HK.out
        subst hz
        have hp := Lib.hid (hskip.out rfl)
        clear hskip hstep
        go_wp2
        go_roundw
        case rel => exact ⟨k + 1, by omega, by go_num, by rw [hp.out]; exact hown, hb⟩
        case measure => simp [intOf]; omega
      · have hz : z = true := HK.out
        subst hz
        go_wp2_with (at_builtin; refine wpList_append_own _ rfl (.tmp 58) (.tmp 60) 28 rfl w.heap.size 3 i0 (.int .i64 0) 1 8 Try.underlying28 hi hz0 hz1 hz2 rfl (by decide) _ _ _ rfl (hown.alloc _) ⟨wr.heap.size, 0, none⟩ 1 1 [.int .i64 (k : Int)] rfl rfl (by intro j u hj; match j, hj with | 0, hj => simp at hj; subst hj; simp [Addr.add]) (by intro u hu; simp at hu; subst hu; rfl) (by unfold maxLen; omega) (by omega) (by have := hb.size; simp; omega) ?_; intro v' w2 hown' hgrow _; refine Hid.out ?_)
        refine Lib.hid ?_
        have R := Lib.hid (hstep.out (by first | rfl | trivial) w2 v' _ hown' hgrow)
        clear hown' hgrow hskip hstep
        go_wp2
        go_roundw
        case rel => exact R.out
        case measure => simp [intOf]; omega
      · have hz : z = true := HK.out
        subst hz
        go_wp2_with (at_builtin; refine wpList_append_own _ rfl (.tmp 58) (.tmp 60) 28 rfl w.heap.size 3 i0 (.int .i64 0) 1 8 Try.underlying28 hi hz0 hz1 hz2 rfl (by decide) _ _ _ rfl (hown.alloc _) ⟨wr.heap.size, 0, none⟩ 1 1 [.int .i64 (k : Int)] rfl rfl (by intro j u hj; match j, hj with | 0, hj => simp at hj; subst hj; simp [Addr.add]) (by intro u hu; simp at hu; subst hu; rfl) (by unfold maxLen; omega) (by omega) (by have := hb.size; simp; omega) ?_; intro v' w2 hown' hgrow _; refine Hid.out ?_)
        refine Lib.hid ?_
        have R := Lib.hid (hstep.out (by first | rfl | trivial) w2 v' _ hown' hgrow)
        clear hown' hgrow hskip hstep
        go_wp2
        go_roundw
        case rel => exact R.out
        case measure => simp [intOf]; omega
      · have hz : z = true := HK.out
        subst hz
        go_wp2_with (at_builtin; refine wpList_append_own _ rfl (.tmp 58) (.tmp 60) 28 rfl w.heap.size 3 i0 (.int .i64 0) 1 8 Try.underlying28 hi hz0 hz1 hz2 rfl (by decide) _ _ _ rfl (hown.alloc _) ⟨wr.heap.size, 0, none⟩ 1 1 [.int .i64 (k : Int)] rfl rfl (by intro j u hj; match j, hj with | 0, hj => simp at hj; subst hj; simp [Addr.add]) (by intro u hu; simp at hu; subst hu; rfl) (by unfold maxLen; omega) (by omega) (by have := hb.size; simp; omega) ?_; intro v' w2 hown' hgrow _; refine Hid.out ?_)
        refine Lib.hid ?_
        have R := Lib.hid (hstep.out (by first | rfl | trivial) w2 v' _ hown' hgrow)
        clear hown' hgrow hskip hstep
        go_wp2
        go_roundw
        case rel => exact R.out
        case measure => simp [intOf]; omega
    · have hkn : k = 256 := by omega
      subst hkn
      go_wp2
      go_ret
      rw [HL.out]
      exact gives_of_own hown hb

set_option maxRecDepth 100000 in
set_option maxHeartbeats 4000000 in
theorem which_1 (A A' : Option Addr) (n c n' c' : Nat) (xs ys : List Int) (w : World) (hr : RI w w.heap.size A n xs) (hr' : RI w w.heap.size A' n' ys) (hn : n ≤ maxLen) (hn' : n' ≤ maxLen) (hx : rightB xs = true) (hy : rightB ys = true) :
    Calls Try.prog 32 #[.slice A n c, .slice A' n' c', .int .i64 1] w (Gives (whichL 1 xs ys) w) := by
  have HX := Lib.hid hx
  have HY := Lib.hid hy
  have HL : Hid (whichL 1 xs ys = pickL (keeps 1 xs ys)) := Lib.hid (by unfold whichL; rw [hx, hy]; rfl)
  clear hx hy
  obtain ⟨i0, hi, hz0, hz1, hz2⟩ := info_parts int_info
  go_enter Try.func32, Try.ntmps32
  go_wp2_with fail
  refine (refRight_any _ _ _ xs _ _ hr hn).mono ?_
  rintro e w1 ⟨rfl, q1, rfl⟩
  rw [HX.out]
  go_wp2_with fail
  refine (refRight_any _ _ _ ys _ _ (hr'.drewN q1) hn').mono ?_
  rintro e w1 ⟨rfl, q2, rfl⟩
  rw [HY.out]
  go_wp2
  go_loopw [7, 8] (fun v i wr => WhichRel (keeps 1 xs ys) w v i wr) (fun _ i _ => 256 - (intOf i).toNat)
  case atStart => exact ⟨0, by omega, rfl, World.ownsRow_nil _ _ _ _, ⟨rfl, rfl, rfl, Nat.le_refl _, fun _ _ => rfl⟩⟩
  case round =>
    obtain ⟨k, hk, rfl, hown, hb⟩ := hrel
    by_cases hlt : k < 256
    · have hd : decide ((k : Int) < 256) = true := by simp; omega
      have hlen := pickN_len (keeps 1 xs ys) k
      have hr1 := Lib.hid (hr.below hb)
      have hr2 := Lib.hid (hr'.below hb)
      have HK : Hid (keeps 1 xs ys (k : Int) = (inB xs k && inB ys k)) := Lib.hid rfl
      clear hr hr'
      go_wp2_with fail
      refine (in_any _ _ _ xs _ _ _ hr1.out hn).mono ?_
      rintro e w1 ⟨rfl, rfl⟩
      go_wp2_with fail
      refine (in_any _ _ _ ys _ _ _ hr2.out hn').mono ?_
      rintro e w1 ⟨rfl, rfl⟩
      have hstep := Lib.hid (fun hp w1 v' o a b => @which_step (keeps 1 xs ys) w wr w1 _ v' k o hlt hp hb hown a b)
      have hskip : Hid (keeps 1 xs ys (k : Int) = false → pickN (keeps 1 xs ys) 0 (k + 1) = pickN (keeps 1 xs ys) 0 k) := Lib.hid pickN_no
      generalize inB xs k = x at *
      generalize inB ys k = y at *
      generalize keeps 1 xs ys (k : Int) = z at *
      generalize pickN (keeps 1 xs ys) 0 k = L at *
      rcases x with _ | _ <;> rcases y with _ | _
      · have hz : z = false := HK.out
        subst hz
        have hp := Lib.hid (hskip.out rfl)
        clear hskip hstep
        go_wp2
        go_roundw
        case rel => exact ⟨k + 1, by omega, by go_num, by rw [hp.out]; exact hown, hb⟩
        case measure => simp [intOf]; omega
      · have hz : z = false := HK.out
        subst hz
        have hp := Lib.hid (hskip.out rfl)
        clear hskip hstep
        go_wp2
        go_roundw
        case rel => exact ⟨k + 1, by omega, by go_num, by rw [hp.out]; exact hown, hb⟩
        case measure => simp [intOf]; omega
      · have hz : z = false := HK.out
        subst hz
        have hp := Lib.hid (hskip.out rfl)
        clear hskip hstep
        go_wp2
        go_roundw
        case rel => exact ⟨k + 1, by omega, by go_num, by rw [hp.out]; exact hown, hb⟩
        case measure => simp [intOf]; omega
      · have hz : z = true := HK.out
        subst hz
        go_wp2_with (at_builtin; refine wpList_append_own _ rfl (.tmp 58) (.tmp 60) 28 rfl w.heap.size 3 i0 (.int .i64 0) 1 8 Try.underlying28 hi hz0 hz1 hz2 rfl (by decide) _ _ _ rfl (hown.alloc _) ⟨wr.heap.size, 0, none⟩ 1 1 [.int .i64 (k : Int)] rfl rfl (by intro j u hj; match j, hj with | 0, hj => simp at hj; subst hj; simp [Addr.add]) (by intro u hu; simp at hu; subst hu; rfl) (by unfold maxLen; omega) (by omega) (by have := hb.size; simp; omega) ?_; intro v' w2 hown' hgrow _; refine Hid.out ?_)
        refine Lib.hid ?_
        have R := Lib.hid (hstep.out (by first | rfl | trivial) w2 v' _ hown' hgrow)
        clear hown' hgrow hskip hstep
        go_wp2
        go_roundw
        case rel => exact R.out
        case measure => simp [intOf]; omega
    · have hkn : k = 256 := by omega
      subst hkn
      go_wp2
      go_ret
      rw [HL.out]
      exact gives_of_own hown hb

set_option maxRecDepth 100000 in
set_option maxHeartbeats 4000000 in
theorem which_2 (A A' : Option Addr) (n c n' c' : Nat) (xs ys : List Int) (w : World) (hr : RI w w.heap.size A n xs) (hr' : RI w w.heap.size A' n' ys) (hn : n ≤ maxLen) (hn' : n' ≤ maxLen) (hx : rightB xs = true) (hy : rightB ys = true) :
    Calls Try.prog 32 #[.slice A n c, .slice A' n' c', .int .i64 2] w (Gives (whichL 2 xs ys) w) := by
  have HX := Lib.hid hx
  have HY := Lib.hid hy
  have HL : Hid (whichL 2 xs ys = pickL (keeps 2 xs ys)) := Lib.hid (by unfold whichL; rw [hx, hy]; rfl)
  clear hx hy
  obtain ⟨i0, hi, hz0, hz1, hz2⟩ := info_parts int_info
  go_enter Try.func32, Try.ntmps32
  go_wp2_with fail
  refine (refRight_any _ _ _ xs _ _ hr hn).mono ?_
  rintro e w1 ⟨rfl, q1, rfl⟩
  rw [HX.out]
  go_wp2_with fail
  refine (refRight_any _ _ _ ys _ _ (hr'.drewN q1) hn').mono ?_
  rintro e w1 ⟨rfl, q2, rfl⟩
  rw [HY.out]
  go_wp2
  go_loopw [7, 8] (fun v i wr => WhichRel (keeps 2 xs ys) w v i wr) (fun _ i _ => 256 - (intOf i).toNat)
  case atStart => exact ⟨0, by omega, rfl, World.ownsRow_nil _ _ _ _, ⟨rfl, rfl, rfl, Nat.le_refl _, fun _ _ => rfl⟩⟩
  case round =>
    obtain ⟨k, hk, rfl, hown, hb⟩ := hrel
    by_cases hlt : k < 256
    · have hd : decide ((k : Int) < 256) = true := by simp; omega
      have hlen := pickN_len (keeps 2 xs ys) k
      have hr1 := Lib.hid (hr.below hb)
      have hr2 := Lib.hid (hr'.below hb)
      have HK : Hid (keeps 2 xs ys (k : Int) = (inB xs k && !inB ys k)) := Lib.hid rfl
      clear hr hr'
      go_wp2_with fail
      refine (in_any _ _ _ xs _ _ _ hr1.out hn).mono ?_
      rintro e w1 ⟨rfl, rfl⟩
      go_wp2_with fail
      refine (in_any _ _ _ ys _ _ _ hr2.out hn').mono ?_
      rintro e w1 ⟨rfl, rfl⟩
      have hstep := Lib.hid (fun hp w1 v' o a b => @which_step (keeps 2 xs ys) w wr w1 _ v' k o hlt hp hb hown a b)
      have hskip : Hid (keeps 2 xs ys (k : Int) = false → pickN (keeps 2 xs ys) 0 (k + 1) = pickN (keeps 2 xs ys) 0 k) := Lib.hid pickN_no
      generalize inB xs k = x at *
      generalize inB ys k = y at *
      generalize keeps 2 xs ys (k : Int) = z at *
      generalize pickN (keeps 2 xs ys) 0 k = L at *
      rcases x with _ | _ <;> rcases y with _ | _
      · have hz : z = false := HK.out
        subst hz
        have hp := Lib.hid (hskip.out rfl)
        clear hskip hstep
        go_wp2
        go_roundw
        case rel => exact ⟨k + 1, by omega, by go_num, by rw [hp.out]; exact hown, hb⟩
        case measure => simp [intOf]; omega
      · have hz : z = false := HK.out
        subst hz
        have hp := Lib.hid (hskip.out rfl)
        clear hskip hstep
        go_wp2
        go_roundw
        case rel => exact ⟨k + 1, by omega, by go_num, by rw [hp.out]; exact hown, hb⟩
        case measure => simp [intOf]; omega
      · have hz : z = true := HK.out
        subst hz
        go_wp2_with (at_builtin; refine wpList_append_own _ rfl (.tmp 58) (.tmp 60) 28 rfl w.heap.size 3 i0 (.int .i64 0) 1 8 Try.underlying28 hi hz0 hz1 hz2 rfl (by decide) _ _ _ rfl (hown.alloc _) ⟨wr.heap.size, 0, none⟩ 1 1 [.int .i64 (k : Int)] rfl rfl (by intro j u hj; match j, hj with | 0, hj => simp at hj; subst hj; simp [Addr.add]) (by intro u hu; simp at hu; subst hu; rfl) (by unfold maxLen; omega) (by omega) (by have := hb.size; simp; omega) ?_; intro v' w2 hown' hgrow _; refine Hid.out ?_)
        refine Lib.hid ?_
        have R := Lib.hid (hstep.out (by first | rfl | trivial) w2 v' _ hown' hgrow)
        clear hown' hgrow hskip hstep
        go_wp2
        go_roundw
        case rel => exact R.out
        case measure => simp [intOf]; omega
      · have hz : z = false := HK.out
        subst hz
        have hp := Lib.hid (hskip.out rfl)
        clear hskip hstep
        go_wp2
        go_roundw
        case rel => exact ⟨k + 1, by omega, by go_num, by rw [hp.out]; exact hown, hb⟩
        case measure => simp [intOf]; omega
    · have hkn : k = 256 := by omega
      subst hkn
      go_wp2
      go_ret
      rw [HL.out]
      exact gives_of_own hown hb

theorem which_no (how : Int) (A A' : Option Addr) (n c n' c' : Nat) (xs ys : List Int) (w : World) (hr : RI w w.heap.size A n xs) (hr' : RI w w.heap.size A' n' ys) (hn : n ≤ maxLen) (hn' : n' ≤ maxLen) (hno : (rightB xs && rightB ys) = false) :
    Calls Try.prog 32 #[.slice A n c, .slice A' n' c', .int .i64 how] w (Gives [] w) := by
  have HN := Lib.hid hno
  clear hno
  go_enter Try.func32, Try.ntmps32
  go_wp2_with fail
  refine (refRight_any _ _ _ xs _ _ hr hn).mono ?_
  rintro e w1 ⟨rfl, q1, rfl⟩
  cases hx : rightB xs with
  | false =>
    clear hx
    go_wp2
    go_ret
    exact ⟨⟨none, 0, Nat.le_refl _, rfl, RI.nil⟩, ⟨rfl, rfl, rfl, Nat.le_refl _, fun _ _ => rfl⟩⟩
  | true =>
    have hy : Hid (rightB ys = false) := Lib.hid (by have := HN.out; rw [hx] at this; simpa using this)
    clear hx
    go_wp2_with fail
    refine (refRight_any _ _ _ ys _ _ (hr'.drewN q1) hn').mono ?_
    rintro e w1 ⟨rfl, q2, rfl⟩
    rw [hy.out]
    go_wp2
    go_ret
    exact ⟨⟨none, 0, Nat.le_refl _, rfl, RI.nil⟩, ⟨rfl, rfl, rfl, Nat.le_refl _, fun _ _ => rfl⟩⟩

theorem which_any (how : Nat) (h : Int) (hhow : (how = 0 ∧ h = 0) ∨ (how = 1 ∧ h = 1) ∨ (how = 2 ∧ h = 2)) (A A' : Option Addr) (n c n' c' : Nat) (xs ys : List Int) (w : World) (hr : RI w w.heap.size A n xs) (hr' : RI w w.heap.size A' n' ys) (hn : n ≤ maxLen) (hn' : n' ≤ maxLen) :
    Calls Try.prog 32 #[.slice A n c, .slice A' n' c', .int .i64 h] w (Gives (whichL how xs ys) w) := by
  by_cases hxy : (rightB xs && rightB ys) = true
  · have hxy' : rightB xs = true ∧ rightB ys = true := by simpa using hxy
    rcases hhow with ⟨rfl, rfl⟩ | ⟨rfl, rfl⟩ | ⟨rfl, rfl⟩
    · exact which_0 A A' n c n' c' xs ys w hr hr' hn hn' hxy'.1 hxy'.2
    · exact which_1 A A' n c n' c' xs ys w hr hr' hn hn' hxy'.1 hxy'.2
    · exact which_2 A A' n c n' c' xs ys w hr hr' hn hn' hxy'.1 hxy'.2
  · rw [whichL_wrong (by simpa using hxy)]
    exact which_no h A A' n c n' c' xs ys w hr hr' hn hn' (by simpa using hxy)

end Go.Proofs.Ytbiofikijehlcaa

namespace Go.Proofs.Ytbiofikijehlcaa
open Go.RowKit

theorem refRightT_b {A : Option Addr} {n c : Nat} {l : Tb} {w : World} {v : Bool} (hr : RT w w.heap.size A n l) (hn : n ≤ maxLen) (h : rightT l = v) :
    Calls Try.prog 29 #[.slice A n c] w fun e w' => e = .returned (.bool v) ∧ Below w.heap.size w w' := by
  subst h; exact refRightT_any A n c l w hr hn
set_option maxRecDepth 100000 in
set_option maxHeartbeats 8000000 in
theorem refBusy_yes (A : Option Addr) (n c : Nat) (l : Tb) (a b : Int) (w : World) (hr : RT w w.heap.size A n l) (hn : n ≤ maxLen) (hrt : rightT l = true) :
    Calls Try.prog 13 #[.slice A n c, .int .i64 a, .int .i64 b] w fun e w' => (∃ A' c', e = .returned (.slice A' (busyT l a b).length c') ∧ RI w' w'.heap.size A' (busyT l a b).length (busyT l a b)) ∧ Below w.heap.size w w' := by
  have HR0 := Lib.hid hr
  have HL := Lib.hid hr.len
  have HN : Hid (n ≤ maxLen) := Lib.hid hn
  have HT := Lib.hid hrt
  have HRT := Lib.hid (rightT_is.1 hrt)
  have HEND := Lib.hid (busyN_all hrt a b)
  obtain ⟨z, hz⟩ : ∃ z, b = z := ⟨_, rfl⟩
  rw [hz] at HEND ⊢
  clear hz
  unfold maxLen at hn
  clear hr hrt
  go_enter Try.func13, Try.ntmps13
  go_wp2_with fail
  refine (refRightT_b HR0.out HN.out HT.out).mono ?_
  rintro e w1 ⟨rfl, hb1⟩
  have HB1 := Lib.hid hb1
  have HR1 := Lib.hid (HR0.out.next hb1)
  clear hb1
  go_wp2
  go_loopw [7, 8] (fun ov kv wr => ∃ (k : Nat) (A0 : Option Addr) (c0' : Nat), k ≤ n ∧ kv = .int .i64 k ∧ ov = .slice A0 (busyN l a z k).length c0' ∧ RI wr wr.heap.size A0 (busyN l a z k).length (busyN l a z k) ∧ (busyN l a z k).length ≤ c0' ∧ Below w1.heap.size w1 wr) (fun _ kv _ => n - (intOf kv).toNat)
  case atStart => exact ⟨0, none, 0, Nat.zero_le _, rfl, by rw [busyN_zero]; rfl, by rw [busyN_zero]; exact RI.nil, by rw [busyN_zero]; exact Nat.le_refl _, Below.refl _ _⟩
  case round =>
    obtain ⟨k, A0, c0', hk, rfl, rfl, ho, hc0, hbel⟩ := hrel
    have HO := Lib.hid ho
    have HC0 := Lib.hid hc0
    have HB := Lib.hid hbel
    have HR := Lib.hid (HR1.out.next hbel)
    have hlen := length_pickL (busyP (l.take k) a z)
    have HON : Hid ((busyN l a z k).length ≤ maxLen) := Lib.hid (by unfold busyN maxLen; omega)
    clear ho hc0 hbel hlen
    by_cases hlt : k < n
    · have hsu := busyN_succ HRT.out a z (show k < l.length by rw [HL.out]; exact hlt)
      obtain ⟨b, off, A2, m2, c2, rfl, hbl, c0, c1, c2', c3', hx⟩ := HR.out.one hlt
      rw [← getD_hd] at hsu
      obtain ⟨x, hxx⟩ : ∃ x, l.getD k hd0 = x := ⟨_, rfl⟩
      rw [hxx] at c0 c2' c3' hx hsu
      have HXX := Lib.hid hxx
      obtain ⟨ys, hys⟩ : ∃ ys, busyN l a z k = ys := ⟨_, rfl⟩
      rw [hys] at hsu HO HC0 HON ⊢
      clear hxx hx c1 hys
      cases hm : meetsZ x.frm x.to a z with
      | true =>
        rw [hm, if_pos rfl] at hsu
        have HSU := Lib.hid hsu
        have EM := Lib.hid hm
        clear hsu hm
        go_wp2
        have zc0 : ∀ p : Later wr, p.now.cell? ⟨b, off + k * 4 + 2, none⟩ = some (.int .i64 x.frm) := fun _ => Later.cell hbl c2'
        have zc1 : ∀ p : Later wr, p.now.cell? ⟨b, off + k * 4 + 3, none⟩ = some (.int .i64 x.to) := fun _ => Later.cell hbl c3'
        refine wp_region_later (by kernel_rfl) (by kernel_rfl) ?_
        repeat (first | go_big_quiet_skip | (go_big_quiet_want; go_big_quiet_op; first | go_big_quiet_on | (apply Exists.intro; refine ⟨fun pz => ?_, ?_⟩; (first | (go_at_call 31; exact Calls.later_of (refMeets_b EM.out)) | fail); go_big_quiet_on)))
        refine wpQuiet_nil ?_
        intro _ hw'
        obtain ⟨pz, rfl⟩ := hw'
        obtain ⟨w1, hb⟩ := pz
        try dsimp only
        clear zc0 zc1
        have HBq := Lib.hid (HB.out.trans (hb.mono HB.out.size))
        clear HB
        have HB := HBq
        clear HBq
        have HRq := Lib.hid (HR.out.next hb)
        clear HR
        have HR := HRq
        clear HRq
        have HOq := Lib.hid (HO.out.next hb)
        clear HO
        have HO := HOq
        clear HOq
        clear hb
        obtain ⟨b', off', A3, m3, c3, e1, _, _, c1, _, _, hx⟩ := HR.out.one hlt
        injection e1 with e1
        injection e1 with e2 e3
        subst e2 e3
        rw [HXX.out] at hx
        have HX := Lib.hid hx
        clear hx hbl c0 c2' c3'
        go_wp2_with fail
        refine (which_any 0 0 (.inl ⟨rfl, rfl⟩) _ _ _ _ _ _ _ _ _ HO.out HX.out.reads HON.out HX.out.few).mono ?_
        rintro e w9 ⟨⟨A9, c9, hc9, rfl, hr9⟩, hb⟩
        have HB9 := Lib.hid (HB.out.trans (hb.mono HB.out.size))
        have HO9 : Hid (RI w9 w9.heap.size A9 (joinL ys x.things).length (joinL ys x.things)) := Lib.hid hr9
        have HC9 : Hid ((joinL ys x.things).length ≤ c9) := Lib.hid hc9
        clear hb hr9 hc9
        go_wp2
        go_roundw
        case rel => exact ⟨k + 1, A9, c9, by omega, by go_num, by rw [HSU.out]; rfl, by rw [HSU.out]; exact HO9.out, by rw [HSU.out]; exact HC9.out, HB9.out⟩
        case measure => simp [intOf]; omega
      | false =>
        rw [hm, if_neg (by simp)] at hsu
        have HSU := Lib.hid hsu
        have EM := Lib.hid hm
        clear hsu hm
        go_wp2
        have zc0 : ∀ p : Later wr, p.now.cell? ⟨b, off + k * 4 + 2, none⟩ = some (.int .i64 x.frm) := fun _ => Later.cell hbl c2'
        have zc1 : ∀ p : Later wr, p.now.cell? ⟨b, off + k * 4 + 3, none⟩ = some (.int .i64 x.to) := fun _ => Later.cell hbl c3'
        refine wp_region_later (by kernel_rfl) (by kernel_rfl) ?_
        repeat (first | go_big_quiet_skip | (go_big_quiet_want; go_big_quiet_op; first | go_big_quiet_on | (apply Exists.intro; refine ⟨fun pz => ?_, ?_⟩; (first | (go_at_call 31; exact Calls.later_of (refMeets_b EM.out)) | fail); go_big_quiet_on)))
        refine wpQuiet_nil ?_
        intro _ hw'
        obtain ⟨pz, rfl⟩ := hw'
        obtain ⟨w1, hb⟩ := pz
        try dsimp only
        clear zc0 zc1
        have HBq := Lib.hid (HB.out.trans (hb.mono HB.out.size))
        clear HB
        have HB := HBq
        clear HBq
        have HRq := Lib.hid (HR.out.next hb)
        clear HR
        have HR := HRq
        clear HRq
        have HOq := Lib.hid (HO.out.next hb)
        clear HO
        have HO := HOq
        clear HOq
        clear hb
        clear hbl c0 c2' c3'
        go_wp2
        go_roundw
        case rel => exact ⟨k + 1, A0, c0', by omega, by go_num, by rw [HSU.out], by rw [HSU.out]; exact HO.out, by rw [HSU.out]; exact HC0.out, HB.out⟩
        case measure => simp [intOf]; omega
    · have hkn : k = n := by omega
      have HE : Hid (busyN l a z k = busyT l a z) := Lib.hid (by rw [hkn, ← HL.out]; exact HEND.out)
      rw [HE.out] at HO ⊢
      have HW := Lib.hid (HB1.out.trans (HB.out.mono HB1.out.size))
      go_wp2
      go_ret
      exact ⟨⟨_, _, rfl, HO.out⟩, HW.out⟩

def shortT (l : Tb) : Bool := decide (l.length ≤ 30 ∧ ∀ j, j < l.length → (l.getD j hd0).things.length ≤ 60)
set_option maxRecDepth 100000 in
set_option maxHeartbeats 8000000 in
theorem refShort_any (A : Option Addr) (n c : Nat) (l : Tb) (w : World) (hr : RT w w.heap.size A n l) (hn : n ≤ maxLen) :
    Calls Try.prog 8 #[.slice A n c] w fun e w' => e = .returned (.bool (shortT l)) ∧ w = w' := by
  have HR := Lib.hid hr
  have HL := Lib.hid hr.len
  obtain ⟨v, hv⟩ : ∃ v, shortT l = v := ⟨_, rfl⟩
  have HV0 := Lib.hid hv
  rw [hv]
  unfold maxLen at hn
  clear hr hv
  by_cases h30 : 30 < n
  · have d0 : decide (30 < n) = true := decide_eq_true h30
    have HV : Hid (v = false) := Lib.hid (by rw [← HV0.out]; exact decide_eq_false (fun h => by have := h.1; rw [HL.out] at this; omega))
    go_enter Try.func8, Try.ntmps8
    go_wp2
    go_ret
    exact ⟨by rw [HV.out]; rfl, rfl⟩
  · have d0 : decide (30 < n) = false := decide_eq_false h30
    go_enter Try.func8, Try.ntmps8
    go_wp2
    go_loopw [3] (fun kv wr => ∃ k : Nat, k ≤ n ∧ kv = .int .i64 k ∧ (∀ j, j < k → (l.getD j hd0).things.length ≤ 60) ∧ wr = w) (fun kv _ => n - (intOf kv).toNat)
    case atStart => exact ⟨0, Nat.zero_le _, rfl, fun j hj => absurd hj (by omega), rfl⟩
    case round =>
      obtain ⟨k, hk, rfl, hpre, rfl⟩ := hrel
      have HP := Lib.hid hpre
      clear hpre
      by_cases hlt : k < n
      · obtain ⟨b, off, A2, m2, c2, rfl, _, _, c1, _, _, hx⟩ := HR.out.one hlt
        have hm := hx.reads.1
        have hm2 := hx.few
        clear hx
        unfold maxLen at hm2
        by_cases h : 60 < m2
        · have d1 : decide (60 < m2) = true := decide_eq_true h
          have HV : Hid (v = false) := Lib.hid (by rw [← HV0.out]; exact decide_eq_false (fun h' => by have := h'.2 k (by rw [HL.out]; exact hlt); omega))
          clear hm
          go_wp2
          go_ret
          exact ⟨by rw [HV.out]; rfl, by trivial⟩
        · have d1 : decide (60 < m2) = false := decide_eq_false h
          have HN : Hid (∀ j, j < k + 1 → (l.getD j hd0).things.length ≤ 60) := Lib.hid (fun j hj => by
            by_cases e : j = k
            · subst e; omega
            · exact HP.out j (by omega))
          clear hm
          go_wp2
          go_roundw
          case rel => exact ⟨k + 1, by omega, by go_num, HN.out, by trivial⟩
          case measure => simp [intOf]; omega
      · have hkn : k = n := by omega
        have HV : Hid (v = true) := Lib.hid (by rw [← HV0.out]; exact decide_eq_true ⟨by rw [HL.out]; omega, fun j hj => HP.out j (by rw [hkn, ← HL.out]; exact hj)⟩)
        go_wp2
        go_ret
        exact ⟨by rw [HV.out]; rfl, by trivial⟩

end Go.Proofs.Ytbiofikijehlcaa

namespace Go.Proofs.Ytbiofikijehlcaa
open Go.RowKit

section
variable {α : Type} {E : Elem α} {C : Nat} {t : TypeId} {w w2 wr : World} {v : Value} {xs : List α}
theorem ON.app (hE : Steady E) (h : ON E C t w v xs wr) {ys : List α} {vs : List Value} {o : Obj} {fl : List Value} {g cap : Nat}
    (hfl : wr.ownsRow w.heap.size t C v xs.length fl) (hx : ∀ j y, ys[j]? = some y → E wr (fun b => b < wr.heap.size ∧ v.ownBlock ≠ some b) y ((vs.drop (j * C)).take C)) (_ : vs.length = ys.length * C)
    (hold : ∀ j y, xs[j]? = some y → E wr (fun b => b < wr.heap.size ∧ v.ownBlock ≠ some b) y ((fl.drop (j * C)).take C))
    (hown' : w2.ownsRow w.heap.size t C (.slice (some ⟨g, 0, none⟩) (xs.length + ys.length) cap) (xs.length + ys.length) (fl ++ vs)) (hgrow : (wr.alloc o).grownBy w2 v.ownBlock)
    (hat : v.ownBlock = some g ∨ wr.heap.size ≤ g) : ON E C t w (.slice (some ⟨g, 0, none⟩) (xs.length + ys.length) cap) (xs ++ ys) w2 := by
  have hB := h.below
  have hsz : wr.heap.size ≤ w2.heap.size := by have := hgrow.size; simp at this; omega
  have hkeep : ∀ b, (b < wr.heap.size ∧ v.ownBlock ≠ some b) → w2.heap[b]? = wr.heap[b]? := fun b hb =>
    (hgrow.block b (by simp; omega) (fun e => hb.2 e.symm)).trans (Below.heap_alloc wr o b hb.1)
  have hok : ∀ b, (b < wr.heap.size ∧ v.ownBlock ≠ some b) → (b < w2.heap.size ∧ (Value.slice (some ⟨g, 0, none⟩) (xs.length + ys.length) cap).ownBlock ≠ some b) := fun b hb =>
    ⟨by omega, fun e => by
      have e' : g = b := by simpa [Value.ownBlock] using e
      subst e'
      rcases hat with h' | h'
      · exact hb.2 h'
      · omega⟩
  refine ⟨fl ++ vs, by rw [List.length_append]; exact hown', (hB.alloc hB.size o).grown hgrow (by have := hB.size; simp; omega) (fun j hj => (hfl.lt j hj).1), fun j y hy => ?_⟩
  have hfll := hfl.1
  rcases Nat.lt_or_ge j xs.length with hj | hj
  · rw [List.getElem?_append_left hj] at hy
    have e := hE.keep (hold j y hy) hkeep hok
    have hlen : j * C + C ≤ fl.length := by rw [hfll, ← Nat.succ_mul]; exact Nat.mul_le_mul_right C hj
    rw [List.drop_append_of_le_length (by omega), List.take_append_of_le_length (by rw [List.length_drop]; omega)]
    exact e
  · rw [List.getElem?_append_right hj] at hy
    have e := hE.keep (hx (j - xs.length) y hy) hkeep hok
    have hd : (fl ++ vs).drop (j * C) = vs.drop ((j - xs.length) * C) := by
      rw [List.drop_append, List.drop_eq_nil_of_le (by rw [hfll]; exact Nat.mul_le_mul_right C hj), List.nil_append, hfll, ← Nat.sub_mul]
    rw [hd]
    exact e
/-- 'out = append(out, x, y ..)' of an owned row of elements: they have been laid into a block of their own -/
theorem wpList_append_ONs {P : Program} {ops : Array Oper} {rest : List Oper} {o : Oper} {a : Act} {Q : Exit → Act → World → Prop} (hgd : o.guard = none) (s x : Operand) (ty : TypeId)
    (ho : o.op = .call { callee := .builtin .append, args := #[s, x], argTypes := #[ty, ty] })
    (hE : Steady E) (h : ON E C t w v xs wr) (i : TypeInfo) (z : Value) (bytes : Nat) (ht : P.underlying ty = some (.slice t)) (hi : P.info? t = some i) (hz : i.zero = some z)
    (hsize : i.size = C) (hby : i.bytes = bytes) (hzs : z.cells.size = C) (hsz : 0 < C)
    (hs : a.eval s = v) (ys : List α) (m : Nat) (hm : ys.length = m) (hm0 : 0 < m) (cs : Array Value) (hx : a.eval x = .slice (some ⟨wr.heap.size, 0, none⟩) m m) (hl : cs.toList.length = m * C) (h1 : ∀ u ∈ cs.toList, u.oneCell' = true)
    (he : ∀ j y, ys[j]? = some y → E wr (fun b => b < wr.heap.size ∧ v.ownBlock ≠ some b) y ((cs.toList.drop (j * C)).take C))
    (h63 : xs.length + m ≤ maxLen) (hbytes : (xs.length + m) * bytes ≤ 140737488355328)
    (hk : ∀ v' w', ON E C t w v' (xs ++ ys) w' → wpList P ops Q rest (a.put o.dst v') w') : wpList P ops Q (o :: rest) a (wr.alloc (.cells cs t)) := by
  subst hm
  have hB := h.below
  obtain ⟨fl, h2, _, h4⟩ := id h
  refine wpList_append_lies (wr.alloc (.cells cs t)) hgd s x ty ho w.heap.size t i z C bytes ht hi hz hsize hby hzs hsz v xs.length fl hs (h2.alloc _) ⟨wr.heap.size, 0, none⟩ ys.length ys.length cs.toList hx hl
    (World.news_of_block (cs := cs) (t := t) (fr := (0, 0)) (heap_alloc_new wr _)) h1 hm0 h63 hbytes (by have := hB.size; simp; omega) _ rfl ?_
  intro g cap w2 hown' hgrow hat hlt
  exact hk _ _ (h.app hE h2 he hl h4 hown' hgrow (hat.imp id (fun e => by rw [e]; simp)))
end

end Go.Proofs.Ytbiofikijehlcaa

namespace Go.Proofs.Ytbiofikijehlcaa
open Go.RowKit

/-- all blocks but g are as they were -/
structure But (g : Nat) (w w' : World) : Prop where
  os : w'.os = w.os
  tape : w'.tape = w.tape
  output : w'.output = w.output
  size : w.heap.size ≤ w'.heap.size
  block : ∀ b, b < w.heap.size → b ≠ g → w'.heap[b]? = w.heap[b]?
section
variable {g : Nat} {w w1 w' : World}
theorem But.refl (g : Nat) (w : World) : But g w w := ⟨rfl, rfl, rfl, Nat.le_refl _, fun _ _ _ => rfl⟩
theorem But.trans (h : But g w w1) (k : But g w1 w') : But g w w' :=
  ⟨k.os.trans h.os, k.tape.trans h.tape, k.output.trans h.output, Nat.le_trans h.size k.size, fun b h1 h2 => (k.block b (Nat.lt_of_lt_of_le h1 h.size) h2).trans (h.block b h1 h2)⟩
theorem But.of (g : Nat) (h : Below w.heap.size w w') : But g w w' := ⟨h.os, h.tape, h.output, h.size, fun b h1 _ => h.block b h1⟩
theorem But.next (h : But g w w1) (k : Below w1.heap.size w1 w') : But g w w' := h.trans (But.of g k)
theorem But.below {B : Nat} (h : But g w w') (hB : B ≤ g) (hg : g < w.heap.size) : Below B w w' := ⟨h.os, h.tape, h.output, h.size, fun b hb => h.block b (by omega) (by omega)⟩
theorem But.set (h : But g w w1) (j : Nat) (u : Value) : But g w (w1.setCell ⟨g, j, none⟩ u) :=
  h.trans ⟨rfl, rfl, rfl, by simp [World.setCell], fun b _ hb => Below.heap_setCell _ _ _ _ hb⟩
theorem But.drewN (h : But g w w1) (q : Nat) : But g w (w1.drewN q) := h.next (bel_drew w1 q)
end

end Go.Proofs.Ytbiofikijehlcaa

namespace Go.Proofs.Ytbiofikijehlcaa
open Go.RowKit

section
variable {α : Type} {E : Elem α} {t : TypeId} {w wr w1 : World} {g n cap : Nat} {xs : List α}
/-- the cells of a list of elements, one behind the other -/
theorem flat_of {C : Nat} {ok : Nat → Prop} {b : Nat} : ∀ (xs : List α) (off : Nat), (∀ j x, xs[j]? = some x → ∃ vs : List Value, vs.length = C ∧ (∀ i v, vs[i]? = some v → w.cell? ⟨b, off + (j * C + i), none⟩ = some v) ∧ E w ok x vs) →
    ∃ fl : List Value, fl.length = xs.length * C ∧ (∀ j u, fl[j]? = some u → w.cell? ⟨b, off + j, none⟩ = some u) ∧ ∀ j x, xs[j]? = some x → E w ok x ((fl.drop (j * C)).take C)
  | [], off, _ => ⟨[], by simp, fun j u h => by simp at h, fun j x h => by simp at h⟩
  | x :: r, off, h => by
    obtain ⟨vs, h1, h2, h3⟩ := h 0 x rfl
    obtain ⟨fl, k1, k2, k3⟩ := flat_of (C := C) r (off + C) (fun j y hy => by
      obtain ⟨us, u1, u2, u3⟩ := h (j + 1) y (by simpa using hy)
      refine ⟨us, u1, fun i v hv => ?_, u3⟩
      have := u2 i v hv
      rw [show off + ((j + 1) * C + i) = off + C + (j * C + i) by rw [Nat.add_mul, Nat.one_mul]; omega] at this
      exact this)
    refine ⟨vs ++ fl, by rw [List.length_append, h1, k1, List.length_cons, Nat.add_mul, Nat.one_mul]; omega, fun j u hu => ?_, fun j y hy => ?_⟩
    · by_cases hj : j < vs.length
      · rw [List.getElem?_append_left hj] at hu
        have := h2 j u hu
        rwa [show off + (0 * C + j) = off + j by omega] at this
      · rw [List.getElem?_append_right (by omega)] at hu
        have := k2 _ u hu
        rwa [show off + C + (j - vs.length) = off + j by omega] at this
    · cases j with
      | zero =>
        have : x = y := by simpa using hy
        subst this
        rw [Nat.zero_mul, List.drop_zero, List.take_append_of_le_length (by omega), List.take_of_length_le (by omega)]
        exact h3
      | succ j =>
        have e := k3 j y (by simpa using hy)
        rw [show (j + 1) * C = vs.length + j * C by rw [Nat.add_mul, Nat.one_mul, h1]; omega, List.drop_append, List.drop_of_length_le (by omega), List.nil_append, show vs.length + j * C - vs.length = j * C by omega]
        exact e
/-- an element of a row of one's own is stored anew -/
theorem ON.set4 (hE : Steady E) (h : ON E 4 t w (.slice (some ⟨g, 0, none⟩) n cap) xs wr) {i : Nat} (hi : i < xs.length) {x : α} {v0 v1 v2 v3 : Value} (hx : E wr (fun b => b < wr.heap.size ∧ b ≠ g) x [v0, v1, v2, v3]) :
    ON E 4 t w (.slice (some ⟨g, 0, none⟩) n cap) (xs.set i x) ((((wr.setCell ⟨g, i * 4, none⟩ v0).setCell ⟨g, i * 4 + 1, none⟩ v1).setCell ⟨g, i * 4 + 2, none⟩ v2).setCell ⟨g, i * 4 + 3, none⟩ v3) := by
  obtain ⟨fl, h1, h2, h3⟩ := h
  have hn : n = xs.length := by
    rcases h1.2 with ⟨e, _⟩ | ⟨g', cap', cur, e, _⟩
    · cases e
    · injection e
  subst hn
  have hfl := h1.1
  have s0 := (h1.stored (i * 4) v0).1
  have s1 := (s0.stored (i * 4 + 1) v1).1
  have s2 := (s1.stored (i * 4 + 2) v2).1
  have s3 := (s2.stored (i * 4 + 3) v3).1
  have hgb : w.heap.size ≤ g := (h1.lt g rfl).1
  have hk : ∀ b, b ≠ g → ((((wr.setCell ⟨g, i * 4, none⟩ v0).setCell ⟨g, i * 4 + 1, none⟩ v1).setCell ⟨g, i * 4 + 2, none⟩ v2).setCell ⟨g, i * 4 + 3, none⟩ v3).heap[b]? = wr.heap[b]? := fun b hb => by
    rw [Below.heap_setCell _ _ _ _ hb, Below.heap_setCell _ _ _ _ hb, Below.heap_setCell _ _ _ _ hb, Below.heap_setCell _ _ _ _ hb]
  have hsz : ((((wr.setCell ⟨g, i * 4, none⟩ v0).setCell ⟨g, i * 4 + 1, none⟩ v1).setCell ⟨g, i * 4 + 2, none⟩ v2).setCell ⟨g, i * 4 + 3, none⟩ v3).heap.size = wr.heap.size := by simp [World.setCell]
  refine ⟨_, by rw [List.length_set]; exact s3, (((h2.setCell (p := ⟨g, _, none⟩) hgb v0).setCell (p := ⟨g, _, none⟩) hgb v1).setCell (p := ⟨g, _, none⟩) hgb v2).setCell (p := ⟨g, _, none⟩) hgb v3, fun j y hy => ?_⟩
  have hj : j < xs.length := by have := (List.getElem?_eq_some_iff.1 hy).1; rwa [List.length_set] at this
  by_cases hji : j = i
  · subst hji
    rw [List.getElem?_set_self hj] at hy
    have hy' : x = y := by simpa using hy
    subst hy'
    have e : ((((((fl.set (j * 4) v0).set (j * 4 + 1) v1).set (j * 4 + 2) v2).set (j * 4 + 3) v3).drop (j * 4)).take 4) = [v0, v1, v2, v3] := by
      apply List.ext_getElem?
      intro k
      match k with
      | 0 => simp [List.getElem?_drop, List.getElem?_set]; omega
      | 1 => simp [List.getElem?_drop, List.getElem?_set]; omega
      | 2 => simp [List.getElem?_drop, List.getElem?_set]; omega
      | 3 => simp [List.getElem?_drop, List.getElem?_set]; omega
      | k + 4 => simp [List.getElem?_take]; omega
    rw [e]
    exact hE.keep hx (fun b hb => hk b hb.2) (fun b hb => ⟨by rw [hsz]; exact hb.1, fun e => by
      have e' : g = b := by simpa [Value.ownBlock] using e
      exact hb.2 e'.symm⟩)
  · rw [List.getElem?_set_ne (fun e => hji e.symm)] at hy
    have e : ((((((fl.set (i * 4) v0).set (i * 4 + 1) v1).set (i * 4 + 2) v2).set (i * 4 + 3) v3).drop (j * 4)).take 4) = (fl.drop (j * 4)).take 4 := by
      apply List.ext_getElem?
      intro k
      rw [List.getElem?_take, List.getElem?_take]
      split
      · rw [List.getElem?_drop, List.getElem?_drop, List.getElem?_set_ne (by omega), List.getElem?_set_ne (by omega), List.getElem?_set_ne (by omega), List.getElem?_set_ne (by omega)]
      · rfl
    rw [e]
    refine hE.keep (h3 j y hy) (fun b hb => hk b (fun e => hb.2 (by rw [e]; rfl))) (fun b hb => ⟨by rw [hsz]; exact hb.1, hb.2⟩)
/-- where a row of one's own lies -/
theorem ON.block (h : ON E 4 t w (.slice (some ⟨g, 0, none⟩) n cap) xs wr) {i : Nat} (hi : i < n * 4) : (∃ u, wr.cell? ⟨g, i, none⟩ = some u) ∧ wr.frozen? ⟨g, i, none⟩ = false := by
  obtain ⟨fl, h1, _⟩ := h
  have hn : n = xs.length := by
    rcases h1.2 with ⟨e, _⟩ | ⟨g', cap', cur, e, _⟩
    · cases e
    · injection e
  subst hn
  refine ⟨?_, h1.frozenAt i⟩
  rw [h1.cellAt i hi, List.getElem?_eq_getElem (by rw [h1.1]; exact hi)]
  exact ⟨_, rfl⟩
theorem ON.head {C : Nat} {A : Option Addr} (h : ON E C t w (.slice A n cap) xs wr) (hn : 0 < n) : ∃ g, A = some ⟨g, 0, none⟩ ∧ w.heap.size ≤ g ∧ g < wr.heap.size := by
  obtain ⟨fl, h1, _⟩ := h
  rcases id h1.2 with ⟨e, h0⟩ | ⟨g', cap', cur, e, _⟩
  · injection e with e1 e2 e3
    omega
  · injection e with e1 e2 e3
    subst e1
    exact ⟨g', rfl, h1.lt g' rfl⟩
end
/-- a row of one's own behind block B, whose elements reach blocks that are 'ok' -/
def RowQ {α : Type} (E : Elem α) (C : Nat) (t : TypeId) (ok : Nat → Prop) (B : Nat) (v : Value) (xs : List α) (wr : World) : Prop :=
  ∃ fl : List Value, wr.ownsRow B t C v xs.length fl ∧ ∀ j x, xs[j]? = some x → E wr ok x ((fl.drop (j * C)).take C)
section
variable {α : Type} {E : Elem α} {C : Nat} {t : TypeId} {ok : Nat → Prop} {B : Nat} {v : Value} {xs : List α} {w wr w1 : World}
theorem RowQ.keep (hE : Steady E) (h : RowQ E C t ok B v xs wr) (hk : ∀ b, ok b ∨ v.ownBlock = some b → w1.heap[b]? = wr.heap[b]?) : RowQ E C t ok B v xs w1 := by
  obtain ⟨fl, h1, h2⟩ := h
  refine ⟨fl, ⟨h1.1, h1.2.imp id ?_⟩, fun j x hx => hE.keep (h2 j x hx) (fun b hb => hk b (.inl hb)) (fun _ h => h)⟩
  rintro ⟨g, cap, cur, e1, e2, e3, e4⟩
  exact ⟨g, cap, cur, e1, e2, (hk g (.inr (by rw [e1]; rfl))).trans e3, e4⟩
theorem RowQ.on (hE : Steady E) (h : RowQ E C t ok w.heap.size v xs wr) (hb : Below w.heap.size w wr) (hok : ∀ b, ok b → b < wr.heap.size ∧ v.ownBlock ≠ some b) : ON E C t w v xs wr := by
  obtain ⟨fl, h1, h2⟩ := h
  exact ⟨fl, h1, hb, fun j x hx => hE.keep (h2 j x hx) (fun _ _ => rfl) hok⟩
theorem RowQ.own (h : RowQ E C t ok B v xs wr) : ∀ b, v.ownBlock = some b → B ≤ b ∧ b < wr.heap.size := by
  obtain ⟨fl, h1, _⟩ := h
  exact h1.lt
theorem RowQ.form (h : RowQ E C t ok B v xs wr) : ∃ A c, v = .slice A xs.length c ∧ (A = none → c = 0) ∧ xs.length ≤ c := by
  obtain ⟨fl, h1, _⟩ := h
  rcases h1.2 with ⟨hv, h0⟩ | ⟨g, cap, cur, hv, _, _, hc, _⟩
  · exact ⟨none, 0, by rw [hv, h0], fun _ => rfl, by omega⟩
  · exact ⟨_, cap, hv, (fun e => by cases e), hc⟩
/-- its k-th element -/
theorem RowQ.at {A : Option Addr} {n c : Nat} (h : RowQ E C t ok B (.slice A n c) xs wr) {k : Nat} (hk : k < n) : ∃ g x vs, A = some ⟨g, 0, none⟩ ∧ B ≤ g ∧ g < wr.heap.size ∧ xs[k]? = some x ∧ vs.length = C ∧ (∀ i v, vs[i]? = some v → wr.cell? ⟨g, k * C + i, none⟩ = some v) ∧ E wr ok x vs := by
  obtain ⟨fl, h1, h2⟩ := h
  rcases id h1.2 with ⟨e, h0⟩ | ⟨g, cap, cur, e, _⟩
  · injection e with _ e2 _
    omega
  · injection e with e1 e2 e3
    subst e1 e2 e3
    obtain ⟨hb1, hb2⟩ := h1.lt g rfl
    have hx : xs[k]? = some xs[k] := List.getElem?_eq_getElem hk
    have hle : k * C + C ≤ fl.length := by rw [h1.1, ← Nat.succ_mul]; exact Nat.mul_le_mul_right C hk
    refine ⟨g, xs[k], _, rfl, hb1, hb2, hx, by rw [List.length_take, List.length_drop]; omega, fun i v hv => ?_, h2 k _ hx⟩
    have hi : i < C := by
      have := (List.getElem?_eq_some_iff.1 hv).1
      rw [List.length_take] at this
      omega
    rw [List.getElem?_take_of_lt hi, List.getElem?_drop] at hv
    rw [h1.cellAt (k * C + i) (by rw [← h1.1]; omega)]
    exact hv
end
/-- a table's cells are one cell each -/
theorem flat_one {ok : Nat → Prop} {w : World} {l : Tb} {fl : List Value} (h1 : fl.length = l.length * 4) (h : ∀ j x, l[j]? = some x → EH w ok x ((fl.drop (j * 4)).take 4)) : ∀ u ∈ fl, u.oneCell' = true := by
  intro u hu
  obtain ⟨k, hk, rfl⟩ := List.getElem_of_mem hu
  have hj : k / 4 < l.length := by omega
  obtain ⟨A, m, c, hv, _⟩ := h (k / 4) _ (List.getElem?_eq_getElem hj)
  have e : ((fl.drop (k / 4 * 4)).take 4)[k % 4]? = some fl[k] := by
    rw [List.getElem?_take_of_lt (by omega), List.getElem?_drop, show k / 4 * 4 + k % 4 = k by omega, List.getElem?_eq_getElem hk]
  rw [hv] at e
  have h4 : k % 4 < 4 := Nat.mod_lt _ (by omega)
  rcases (show k % 4 = 0 ∨ k % 4 = 1 ∨ k % 4 = 2 ∨ k % 4 = 3 by omega) with h0 | h0 | h0 | h0
  all_goals
    rw [h0] at e
    have e' := Option.some.inj e
    rw [← e']
    rfl

end Go.Proofs.Ytbiofikijehlcaa

namespace Go.Proofs.Ytbiofikijehlcaa
open Go.RowKit

set_option maxRecDepth 100000 in
set_option maxHeartbeats 2000000 in
/-- a clone of numbers lies in memory of its own -/
theorem clone_any (A : Option Addr) (n c : Nat) (xs : List Int) (w : World) (hr : RI w w.heap.size A n xs) (hnil : A = none → c = 0) (hn : n ≤ 1000) :
    Calls Try.prog 57 #[.slice A n c] w fun e w' => ∃ v, e = .returned v ∧ ON EI 1 3 w v xs w' := by
  obtain ⟨i0, hi0, hz0, hz1, hz2⟩ := info_parts int_info
  have HR := Lib.hid hr
  cases A with
  | none =>
    obtain rfl := hnil rfl
    have hn0 : n = 0 := by
      rcases Nat.eq_zero_or_pos n with h0 | h0
      · exact h0
      · obtain ⟨b, off, e', _⟩ := hr.2 h0; cases e'
    subst hn0
    have hxs : Hid (xs = []) := Lib.hid (List.eq_nil_of_length_eq_zero hr.1)
    have q22 : ∀ (w : World) (a : Option Addr) (n c n' c' : Nat), (binOp .eql 28 (.slice a n c) (.slice none n' c')).run Try.prog w = .ok (.bool a.isNone) w := fun w a n c n' c' => Lib.run_eql_slice_nil w _ _ a n c n' c' Try.underlying28
    clear hr hnil hn
    go_enter Try.func57, Try.ntmps57
    go_wp2
    go_ret
    exact ⟨_, rfl, by rw [hxs.out]; exact ON.nil _⟩
  | some ad =>
    have q22 : ∀ (w : World) (a : Option Addr) (n c n' c' : Nat), (binOp .eql 28 (.slice a n c) (.slice none n' c')).run Try.prog w = .ok (.bool a.isNone) w := fun w a n c n' c' => Lib.run_eql_slice_nil w _ _ a n c n' c' Try.underlying28
    clear hr hnil
    have HR1 : Hid (RI (w.alloc (.cells #[] 3)) (w.alloc (.cells #[] 3)).heap.size (some ad) n xs) := Lib.hid (HR.out.next ((Below.refl _ _).alloc (Nat.le_refl _) _))
    go_enter Try.func57, Try.ntmps57
    go_wp2_with (at_builtin; refine wpList_append_RI _ rfl _ _ 28 rfl w.heap.size 3 i0 (.int .i64 0) 8 Try.underlying28 hi0 hz0 hz1 hz2 rfl (.slice (some ⟨w.heap.size, 0, none⟩) 0 0) 0 [] rfl (World.ownsRow_made w #[] 0 (Nat.le_refl _) (Nat.zero_le _) rfl) _ _ n c xs rfl HR1.out (fun e => by cases e) (by unfold maxLen; omega) (by omega) (by simp) ?_; intro v' w1 hown hgrow; refine Hid.out ?_)
    refine Lib.hid ?_
    have HO : Hid (ON EI 1 3 w v' xs w1) := Lib.hid (own_on (by have h := hown; have hl := HR.out.1; rw [Nat.zero_add, List.nil_append] at h; rw [hl]; exact h) (((Below.refl _ w).alloc (Nat.le_refl _) _).grown hgrow (by simp) (by intro k hk; have hk' : w.heap.size = k := (by simpa [Value.ownBlock] using hk); omega)))
    clear hown hgrow
    go_wp2
    go_ret
    exact ⟨_, rfl, HO.out⟩


end Go.Proofs.Ytbiofikijehlcaa
