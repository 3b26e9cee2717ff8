/- Go's slices.Clone of numbers, by a walk over its text: a clone lies in memory of its own. -/
import Derived.Test.YtpaabeadiokgoaaNums
import Derived.Lib.SliceRun
import Derived.LoopTactic
import Derived.Deep.QuietTactic
namespace Go.Proofs.Ytpaabeadiokgoaa
open Go.RowKit

set_option maxRecDepth 100000 in
set_option maxHeartbeats 2000000 in
/-- a clone of numbers lies in memory of its own -/
theorem clone_any (A : Option Addr) (n c : Nat) (xs : List Int) (w : World) (hr : RI w w.heap.size A n xs) (hnil : A = none → c = 0) (hn : n ≤ 1000) :
    Calls Try.prog 14 #[.slice A n c] w fun e w' => ∃ v, e = .returned v ∧ ON EI 1 3 w v xs w' := by
  obtain ⟨i0, hi0, hz0, hz1, hz2⟩ := info_parts int_info
  have HR := Lib.hid hr
  cases A with
  | none =>
    obtain rfl := hnil rfl
    have hn0 : n = 0 := by
      rcases Nat.eq_zero_or_pos n with h0 | h0
      · exact h0
      · obtain ⟨b, off, e', _⟩ := hr.2 h0; cases e'
    subst hn0
    have hxs : Hid (xs = []) := Lib.hid (List.eq_nil_of_length_eq_zero hr.1)
    have q22 : ∀ (w : World) (a : Option Addr) (n c n' c' : Nat), (binOp .eql 24 (.slice a n c) (.slice none n' c')).run Try.prog w = .ok (.bool a.isNone) w := fun w a n c n' c' => Lib.run_eql_slice_nil w _ _ a n c n' c' Try.underlying24
    clear hr hnil hn
    go_enter Try.func14, Try.ntmps14
    go_wp2
    go_ret
    exact ⟨_, rfl, by rw [hxs.out]; exact ON.nil _⟩
  | some ad =>
    have q22 : ∀ (w : World) (a : Option Addr) (n c n' c' : Nat), (binOp .eql 24 (.slice a n c) (.slice none n' c')).run Try.prog w = .ok (.bool a.isNone) w := fun w a n c n' c' => Lib.run_eql_slice_nil w _ _ a n c n' c' Try.underlying24
    clear hr hnil
    have HR1 : Hid (RI (w.alloc (.cells #[] 3)) (w.alloc (.cells #[] 3)).heap.size (some ad) n xs) := Lib.hid (HR.out.next ((Below.refl _ _).alloc (Nat.le_refl _) _))
    go_enter Try.func14, Try.ntmps14
    go_wp2_with (at_builtin; refine wpList_append_RI _ rfl _ _ 24 rfl w.heap.size 3 i0 (.int .i64 0) 8 Try.underlying24 hi0 hz0 hz1 hz2 rfl (.slice (some ⟨w.heap.size, 0, none⟩) 0 0) 0 [] rfl (World.ownsRow_made w #[] 0 (Nat.le_refl _) (Nat.zero_le _) rfl) _ _ n c xs rfl HR1.out (fun e => by cases e) (by unfold maxLen; omega) (by omega) (by simp) ?_; intro v' w1 hown hgrow; refine Hid.out ?_)
    refine Lib.hid ?_
    have HO : Hid (ON EI 1 3 w v' xs w1) := Lib.hid (own_on (by have h := hown; have hl := HR.out.1; rw [Nat.zero_add, List.nil_append] at h; rw [hl]; exact h) (((Below.refl _ w).alloc (Nat.le_refl _) _).grown hgrow (by simp) (by intro k hk; have hk' : w.heap.size = k := (by simpa [Value.ownBlock] using hk); omega)))
    clear hown hgrow
    go_wp2
    go_ret
    exact ⟨_, rfl, HO.out⟩


end Go.Proofs.Ytpaabeadiokgoaa
