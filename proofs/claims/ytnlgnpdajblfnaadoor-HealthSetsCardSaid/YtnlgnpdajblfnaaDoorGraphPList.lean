/- The program's there, marks.list, Node of layer 5 (graph): what they answer of any list of things, any marks. -/
import Derived.Test.YtnlgnpdajblfnaaDoorGraphPRight
import Derived.Test.YtnlgnpdajblfnaaDoorGraphPMarks
import Derived.Test.YtnlgnpdajblfnaaDoorGraphFace
namespace Go.Proofs.YtnlgnpdajblfnaaDoor
open Go.RowKit

def thereB (g : Gr) (a : Int) : Bool := decide (0 ≤ a ∧ a < g.length) && rightG g
theorem thereB_no {g : Gr} {a : Int} (h : ¬ (0 ≤ a ∧ a < g.length)) : thereB g a = false := by unfold thereB; rw [decide_eq_false h, Bool.false_and]
theorem thereB_is {g : Gr} {a : Int} : thereB g a = true ↔ rightG g = true ∧ 0 ≤ a ∧ a < g.length := by
  unfold thereB
  rw [Bool.and_eq_true, decide_eq_true_eq]
  exact ⟨fun h => ⟨h.2, h.1⟩, fun h => ⟨h.2, h.1⟩⟩
set_option maxRecDepth 100000 in
set_option maxHeartbeats 1000000 in
theorem there_any (A : Option Addr) (n c : Nat) (g : Gr) (a : Int) (w : World) (hr : RG w w.heap.size A n g) (hn : n ≤ maxLen) :
    Calls Tryd.prog 28 #[.slice A n c, .int .i64 a] w fun e w' => e = .returned (.bool (thereB g a)) ∧ Below w.heap.size w w' := by
  have HN := Lib.hid hn
  have HR := Lib.hid hr
  have HL := Lib.hid hr.len
  clear hr hn
  by_cases h0 : 0 ≤ a
  · have h0d : decide (0 ≤ a) = true := by simpa using h0
    by_cases h1 : a < n
    · have h1d : decide (a < (n : Int)) = true := by simpa using h1
      have e1 : Hid (thereB g a = rightG g) := Lib.hid (by unfold thereB; rw [decide_eq_true ⟨h0, by rw [HL.out]; exact h1⟩, Bool.true_and])
      go_enter Tryd.func28, Tryd.ntmps28
      go_wp2_with fail
      refine (graphRight_any _ _ _ _ _ HR.out HN.out).mono ?_
      rintro e w1 ⟨rfl, hb⟩
      have HB := Lib.hid hb
      clear hb
      go_wp2
      go_ret
      exact ⟨ret_bool e1.out, HB.out⟩
    · have h1d : decide (a < (n : Int)) = false := by simpa using h1
      have e1 : Hid (thereB g a = false) := Lib.hid (thereB_no (fun h => h1 (by have := HL.out; omega)))
      go_enter Tryd.func28, Tryd.ntmps28
      go_wp2
      go_ret
      exact ⟨ret_bool e1.out, Below.refl _ _⟩
  · have h0d : decide (0 ≤ a) = false := by simpa using h0
    have e1 : Hid (thereB g a = false) := Lib.hid (thereB_no (fun h => h0 h.1))
    go_enter Tryd.func28, Tryd.ntmps28
    go_wp2
    go_ret
    exact ⟨ret_bool e1.out, Below.refl _ _⟩
theorem there_b {A : Option Addr} {n c : Nat} {g : Gr} {a : Int} {w : World} {b : Bool} (hr : RG w w.heap.size A n g) (hn : n ≤ maxLen) (h : thereB g a = b) :
    Calls Tryd.prog 28 #[.slice A n c, .int .i64 a] w fun e w' => e = .returned (.bool b) ∧ Below w.heap.size w w' := by
  subst h; exact there_any A n c g a w hr hn

set_option maxRecDepth 100000 in
set_option maxHeartbeats 2000000 in
theorem marksList_any (p : Nat → Bool) (w : World) :
    Calls Tryd.prog 26 #[.agg (marksA p)] w (IPost (numsF p 256) w) := by
  obtain ⟨i0, hi0, hz0, hz1, hz2⟩ := info_parts int_info
  have HM := Lib.hid (marks_boxed w p)
  go_enter Tryd.func26, Tryd.ntmps26
  go_wp2_with (with_reducible refine wpList_load_marks rfl _ rfl HM.out rfl ?_; refine Hid.out ?_)
  refine Lib.hid ?_
  have HB0 := Lib.hid HM.out.bel
  generalize w.alloc (.cells (marksA p) 49) = w1 at *
  clear HM
  go_wp2
  go_loopw [3, 7] (fun v i wr => ∃ k : Nat, k ≤ 256 ∧ i = .int .i64 k ∧ ON EI 1 3 w1 v (numsF p k) wr) (fun _ i _ => 256 - (intOf i).toNat)
  case atStart => exact ⟨0, Nat.zero_le _, rfl, ON.nil _⟩
  case round =>
    obtain ⟨k, hk, rfl, hf⟩ := hrel
    have HF := Lib.hid hf
    clear hf
    by_cases hlt : k < 256
    · have hlen : Hid ((numsF p k).length ≤ 1000) := Lib.hid (by have := numsF_len p k; omega)
      have hix := run_ix_marks p hlt
      cases hp : p k with
      | true =>
        have HS := Lib.hid (numsF_yes hp)
        rw [hp] at hix
        clear hp
        go_wp2_with (at_builtin; refine wpList_append_EI rfl (.tmp 12) (.tmp 14) 23 3 rfl HF.out i0 Tryd.underlying23 hi0 hz0 hz1 hz2 rfl _ rfl hlen.out ?_; intro v' w4 hON4; refine Hid.out ?_)
        refine Lib.hid ?_
        have HO4 := Lib.hid hON4
        clear hON4 hix
        go_wp2
        go_roundw
        case rel => exact ⟨k + 1, by omega, by go_num, by rw [HS.out]; exact HO4.out⟩
        case measure => simp [intOf]; omega
      | false =>
        have HS := Lib.hid (numsF_no hp)
        rw [hp] at hix
        clear hp
        go_wp2
        go_roundw
        case rel => exact ⟨k + 1, by omega, by go_num, by rw [HS.out]; exact HF.out⟩
        case measure => simp [intOf]; omega
    · have hkn : k = 256 := by omega
      subst hkn
      go_wp2
      go_ret
      exact HF.out.ipost.trans HB0.out
theorem marksList_l {p : Nat → Bool} {w : World} {l : List Int} (h : numsF p 256 = l) :
    Calls Tryd.prog 26 #[.agg (marksA p)] w (IPost l w) := by
  subst h; exact marksList_any p w
/-- marks of the first n things alone -/
theorem numsF_cut {p : Nat → Bool} {n : Nat} : ∀ {m : Nat}, n ≤ m → numsF (fun j => decide (j < n) && p j) m = numsF p n := by
  intro m hm
  induction m with
  | zero =>
    obtain rfl : n = 0 := by omega
    rfl
  | succ m ih =>
    by_cases h : n = m + 1
    · subst h
      exact numsF_ext (fun k hk => by rw [decide_eq_true hk, Bool.true_and])
    · rw [numsF_no (by rw [decide_eq_false (by omega), Bool.false_and])]
      exact ih (by omega)


end Go.Proofs.YtnlgnpdajblfnaaDoor
