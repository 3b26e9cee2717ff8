/- What the small readers of a slice of int answer: set.Right, the reference's Right, in and Same; the slices read as lists of numbers. -/
import Derived.Test.YtnlgnpdajblfnaaDoorSetMath
import Derived.Test.YtnlgnpdajblfnaaDoorSetMem
import Derived.Test.YtnlgnpdajblfnaaDoorSame01
import Derived.LoopTactic
import Derived.Deep.QuietTactic
import Derived.BigQuiet
namespace Go.Proofs.YtnlgnpdajblfnaaDoor
open Go.RowKit

theorem getD_mem_i64 (xs : List Int) (h : ∀ x ∈ xs, -9223372036854775808 ≤ x ∧ x ≤ 9223372036854775807) (j : Nat) : -9223372036854775808 ≤ xs.getD j 0 ∧ xs.getD j 0 ≤ 9223372036854775807 := by
  by_cases hj : j < xs.length
  · have : xs.getD j 0 = xs[j] := by simp [List.getD, hj]
    rw [this]; exact h _ (List.getElem_mem hj)
  · have : xs.getD j 0 = 0 := by simp [List.getD, hj]
    omega

def lastOf (xs : List Int) (k : Nat) : Int := if k = 0 then -1 else xs.getD (k - 1) 0
theorem right_step (xs : List Int) (k : Nat) (hpre : ∀ i, i < k → okAt xs i) : okAt xs k ↔ (lastOf xs k < xs.getD k 0 ∧ xs.getD k 0 < 256) := by
  unfold lastOf
  rcases Nat.eq_zero_or_pos k with rfl | hp
  · unfold okAt; simp; omega
  · have h := hpre (k - 1) (by omega)
    rw [if_neg (by omega)]
    unfold okAt at h ⊢
    omega

set_option maxHeartbeats 400000 in
theorem right_any (A : Option Addr) (n c : Nat) (xs : List Int) (w : World) (B : Nat) (hr : RI w B A n xs) (hn : n ≤ maxLen) :
    Calls Tryd.prog 25 #[.slice A n c] w fun e w' => e = .returned (.bool (rightB xs)) ∧ w = w' := by
  unfold maxLen at hn
  have hlen := hr.1
  have HLEN := Lib.hid hlen
  clear hlen
  go_enter Tryd.func25, Tryd.ntmps25
  go_wp2
  go_loop [3, 8] (fun l i => ∃ k : Nat, k ≤ n ∧ i = .int .i64 k ∧ l = .int .i64 (lastOf xs k) ∧ (∀ i, i < k → okAt xs i)) (fun _ i => n - (intOf i).toNat)
  case atStart => exact ⟨0, Nat.zero_le _, rfl, rfl, fun i hi => absurd hi (by omega)⟩
  case round =>
    obtain ⟨k, hk, rfl, rfl, hpre⟩ := hrel
    have HP := Lib.hid hpre
    clear hpre
    by_cases hlt : k < n
    · obtain ⟨b, off, rfl, hb, hc⟩ := hr.2 (by omega)
      have hck := hc k hlt
      have hst := Lib.hid (right_step xs k HP.out)
      clear hc hr
      by_cases hok : lastOf xs k < xs.getD k 0 ∧ xs.getD k 0 < 256
      · obtain ⟨h1, h2⟩ := hok
        have g1 : ¬ xs.getD k 0 ≤ lastOf xs k := by omega
        have g2 : ¬ 256 ≤ xs.getD k 0 := by omega
        generalize hx : xs.getD k 0 = x at *
        generalize hl : lastOf xs k = l at *
        have HX := Lib.hid hx
        have HL := Lib.hid hl
        clear hx hl
        go_wp2
        go_round
        case rel =>
          refine ⟨k + 1, by omega, by go_num, ?_, ?_⟩
          · unfold lastOf
            rw [if_neg (by omega), Nat.add_sub_cancel, HX.out]
          · intro i hi
            rcases Nat.lt_or_ge i k with h | h
            · exact HP.out i h
            · obtain rfl : i = k := by omega
              exact hst.out.2 ⟨h1, h2⟩
        case measure => simp [intOf]; omega
      · have hbad := Lib.hid (rightB_false xs k (by rw [HLEN.out]; exact hlt) (fun h => hok (hst.out.1 h)))
        clear hst HP
        generalize xs.getD k 0 = x at *
        generalize lastOf xs k = l at *
        by_cases h1 : x ≤ l
        · clear hok
          go_wp2
          go_ret
          exact ⟨ret_bool hbad.out, rfl⟩
        · have h2 : 256 ≤ x := by omega
          clear hok
          go_wp2
          go_ret
          exact ⟨ret_bool hbad.out, rfl⟩
    · have hall : Hid (rightB xs = true) := Lib.hid ((rightB_iff xs).2 fun i hi => HP.out i (by have := HLEN.out; omega))
      clear hr
      go_wp2
      go_ret
      exact ⟨ret_bool hall.out, rfl⟩




end Go.Proofs.YtnlgnpdajblfnaaDoor
