/- What the small readers of a slice of int answer: set.Right, the reference's Right, in and Same; the slices read as lists of numbers. -/
import Derived.LoopTactic
import Derived.Deep.QuietTactic
import Derived.BigQuiet
import Derived.Test.YtlpogkcfjbabaaaMg01
import Derived.Test.YtlpogkcfjbabaaaMg03
import Derived.Test.YtlpogkcfjbabaaaMg04
namespace Go.Proofs.Ytlpogkcfjbabaaa
open Go.RowKit

theorem getD_mem_i64 (xs : List Int) (h : ∀ x ∈ xs, -9223372036854775808 ≤ x ∧ x ≤ 9223372036854775807) (j : Nat) : -9223372036854775808 ≤ xs.getD j 0 ∧ xs.getD j 0 ≤ 9223372036854775807 := by
  by_cases hj : j < xs.length
  · have : xs.getD j 0 = xs[j] := by simp [List.getD, hj]
    rw [this]; exact h _ (List.getElem_mem hj)
  · have : xs.getD j 0 = 0 := by simp [List.getD, hj]
    omega

def lastOf (xs : List Int) (k : Nat) : Int := if k = 0 then -1 else xs.getD (k - 1) 0
theorem right_step (xs : List Int) (k : Nat) (hpre : ∀ i, i < k → okAt xs i) : okAt xs k ↔ (lastOf xs k < xs.getD k 0 ∧ xs.getD k 0 < 256) := by
  unfold lastOf
  rcases Nat.eq_zero_or_pos k with rfl | hp
  · unfold okAt; simp; omega
  · have h := hpre (k - 1) (by omega)
    rw [if_neg (by omega)]
    unfold okAt at h ⊢
    omega

set_option maxHeartbeats 400000 in
theorem right_any (A : Option Addr) (n c : Nat) (xs : List Int) (w : World) (B : Nat) (hr : RI w B A n xs) (hn : n ≤ maxLen) :
    Calls Try.prog 17 #[.slice A n c] w fun e w' => e = .returned (.bool (rightB xs)) ∧ w = w' := by
  unfold maxLen at hn
  have hlen := hr.1
  have HLEN := Lib.hid hlen
  clear hlen
  go_enter Try.func17, Try.ntmps17
  go_wp2
  go_loop [3, 8] (fun l i => ∃ k : Nat, k ≤ n ∧ i = .int .i64 k ∧ l = .int .i64 (lastOf xs k) ∧ (∀ i, i < k → okAt xs i)) (fun _ i => n - (intOf i).toNat)
  case atStart => exact ⟨0, Nat.zero_le _, rfl, rfl, fun i hi => absurd hi (by omega)⟩
  case round =>
    obtain ⟨k, hk, rfl, rfl, hpre⟩ := hrel
    have HP := Lib.hid hpre
    clear hpre
    by_cases hlt : k < n
    · obtain ⟨b, off, rfl, hb, hc⟩ := hr.2 (by omega)
      have hck := hc k hlt
      have hst := Lib.hid (right_step xs k HP.out)
      clear hc hr
      by_cases hok : lastOf xs k < xs.getD k 0 ∧ xs.getD k 0 < 256
      · obtain ⟨h1, h2⟩ := hok
        have g1 : ¬ xs.getD k 0 ≤ lastOf xs k := by omega
        have g2 : ¬ 256 ≤ xs.getD k 0 := by omega
        generalize hx : xs.getD k 0 = x at *
        generalize hl : lastOf xs k = l at *
        have HX := Lib.hid hx
        have HL := Lib.hid hl
        clear hx hl
        go_wp2
        go_round
        case rel =>
          refine ⟨k + 1, by omega, by go_num, ?_, ?_⟩
          · unfold lastOf
            rw [if_neg (by omega), Nat.add_sub_cancel, HX.out]
          · intro i hi
            rcases Nat.lt_or_ge i k with h | h
            · exact HP.out i h
            · obtain rfl : i = k := by omega
              exact hst.out.2 ⟨h1, h2⟩
        case measure => simp [intOf]; omega
      · have hbad := Lib.hid (rightB_false xs k (by rw [HLEN.out]; exact hlt) (fun h => hok (hst.out.1 h)))
        clear hst HP
        generalize xs.getD k 0 = x at *
        generalize lastOf xs k = l at *
        by_cases h1 : x ≤ l
        · clear hok
          go_wp2
          go_ret
          exact ⟨ret_bool hbad.out, rfl⟩
        · have h2 : 256 ≤ x := by omega
          clear hok
          go_wp2
          go_ret
          exact ⟨ret_bool hbad.out, rfl⟩
    · have hall : Hid (rightB xs = true) := Lib.hid ((rightB_iff xs).2 fun i hi => HP.out i (by have := HLEN.out; omega))
      clear hr
      go_wp2
      go_ret
      exact ⟨ret_bool hall.out, rfl⟩

set_option maxHeartbeats 400000 in
theorem in_any (A : Option Addr) (n c : Nat) (xs : List Int) (v : Int) (w : World) (B : Nat) (hr : RI w B A n xs) (hn : n ≤ maxLen) :
    Calls Try.prog 47 #[.slice A n c, .int .i64 v] w fun e w' => e = .returned (.bool (inB xs v)) ∧ w = w' := by
  unfold maxLen at hn
  have HLEN := Lib.hid hr.1
  go_enter Try.func47, Try.ntmps47
  go_wp2
  go_loop [5] (fun i => ∃ k : Nat, k ≤ n ∧ i = .int .i64 k ∧ (∀ i, i < k → xs.getD i 0 ≠ v)) (fun i => n - (intOf i).toNat)
  case atStart => exact ⟨0, Nat.zero_le _, rfl, fun i hi => absurd hi (by omega)⟩
  case round =>
    obtain ⟨k, hk, rfl, hpre⟩ := hrel
    have HP := Lib.hid hpre
    clear hpre
    by_cases hlt : k < n
    · obtain ⟨b, off, rfl, hb, hc⟩ := hr.2 (by omega)
      have hck := hc k hlt
      clear hc hr
      by_cases hx : xs.getD k 0 = v
      · have hin : Hid (inB xs v = true) := Lib.hid (by
          unfold inB
          rw [List.contains_iff_mem, ← hx]
          have hl : k < xs.length := by have := HLEN.out; omega
          have : xs.getD k 0 = xs[k] := by simp [List.getD, hl]
          rw [this]; exact List.getElem_mem hl)
        have h1 : (xs.getD k 0 == v) = true := by simpa using hx
        clear hx
        generalize xs.getD k 0 = x at *
        go_wp2
        go_ret
        exact ⟨ret_bool hin.out, rfl⟩
      · have h1 : (xs.getD k 0 == v) = false := by simpa using hx
        have HX := Lib.hid hx
        clear hx
        generalize hy : xs.getD k 0 = x at *
        have HY := Lib.hid hy
        clear hy
        go_wp2
        go_round
        case rel =>
          refine ⟨k + 1, by omega, by go_num, ?_⟩
          intro i hi
          rcases Nat.lt_or_ge i k with h | h
          · exact HP.out i h
          · obtain rfl : i = k := by omega
            rw [HY.out]; exact HX.out
        case measure => simp [intOf]; omega
    · have hall : Hid (inB xs v = false) := Lib.hid (by
        unfold inB
        rw [← Bool.not_eq_true, List.contains_iff_mem]
        intro hm
        obtain ⟨i, hi, e⟩ := List.getElem_of_mem hm
        have := HP.out i (by have := HLEN.out; omega)
        rw [show xs.getD i 0 = xs[i] by simp [List.getD, hi]] at this
        exact this e)
      clear hr
      go_wp2
      go_ret
      exact ⟨ret_bool hall.out, rfl⟩

set_option maxHeartbeats 400000 in
theorem refRight_any (A : Option Addr) (n c : Nat) (xs : List Int) (w : World) (B : Nat) (hr : RI w B A n xs) (hn : n ≤ maxLen) :
    Calls Try.prog 26 #[.slice A n c] w fun e w' => e = .returned (.bool (rightB xs)) ∧ ∃ k, w' = w.drewN k := by
  unfold maxLen at hn
  have HLEN := Lib.hid hr.1
  go_enter Try.func26, Try.ntmps26
  go_wp2
  go_loopw [3] (fun i wr => ∃ k : Nat, k ≤ n ∧ i = .int .i64 k ∧ (∀ i, i < k → okAt xs i) ∧ ∃ q, wr = w.drewN q) (fun i _ => n - (intOf i).toNat)
  case atStart => exact ⟨0, Nat.zero_le _, rfl, fun i hi => absurd hi (by omega), 0, rfl⟩
  case round =>
    obtain ⟨k, hk, rfl, hpre, q, rfl⟩ := hrel
    have HP := Lib.hid hpre
    clear hpre
    by_cases hlt : k < n
    · obtain ⟨b, off, rfl, hb, hc⟩ := hr.2 (by omega)
      have hck := hc k hlt
      have hcp := hc (k - 1) (by omega)
      clear hc hr
      have hok : Hid (okAt xs k ↔ (0 ≤ xs.getD k 0 ∧ xs.getD k 0 ≤ 255 ∧ (0 < k → xs.getD (k - 1) 0 < xs.getD k 0))) := Lib.hid Iff.rfl
      have hbad : Hid (¬ okAt xs k → rightB xs = false) := Lib.hid (rightB_false xs k (by rw [HLEN.out]; exact hlt))
      have hnext : Hid (okAt xs k → ∀ i, i < k + 1 → okAt xs i) := Lib.hid (by
        intro h i hi
        rcases Nat.lt_or_ge i k with h' | h'
        · exact HP.out i h'
        · obtain rfl : i = k := by omega
          exact h)
      generalize xs.getD k 0 = x at *
      generalize xs.getD (k - 1) 0 = y at *
      by_cases h1 : x < 0
      · have e1 : Hid (rightB xs = false) := Lib.hid (hbad.out (fun h => by have := hok.out.1 h; omega))
        clear hok hbad hnext
        go_wp2
        go_quiet (fail)
        go_wp2
        go_ret
        exact ⟨ret_bool e1.out, _, World.drewN_drewN _ _ _⟩
      · have d1 : decide (x < 0) = false := by simpa using h1
        by_cases h2 : 255 < x
        · have e1 : Hid (rightB xs = false) := Lib.hid (hbad.out (fun h => by have := hok.out.1 h; omega))
          clear hok hbad hnext
          go_wp2
          go_quiet (fail)
          go_wp2
          go_ret
          exact ⟨ret_bool e1.out, _, World.drewN_drewN _ _ _⟩
        · have d2 : decide (255 < x) = false := by simpa using h2
          by_cases h3 : 0 < k
          · by_cases h4 : x ≤ y
            · have e1 : Hid (rightB xs = false) := Lib.hid (hbad.out (fun h => by have := hok.out.1 h; omega))
              clear hok hbad hnext
              go_wp2
              go_quiet (fail)
              go_wp2
              go_ret
              exact ⟨ret_bool e1.out, _, World.drewN_drewN _ _ _⟩
            · have d4 : decide (x ≤ y) = false := by simpa using h4
              have e1 := Lib.hid (hnext.out (hok.out.2 ⟨by omega, by omega, fun _ => by omega⟩))
              clear hok hbad hnext
              go_wp2
              go_quiet (fail)
              go_wp2
              go_roundw
              case rel => exact ⟨k + 1, by omega, by go_num, e1.out, _, rfl⟩
              case measure => simp [intOf]; omega
          · have d3 : decide ((0 : Int) < (k : Int)) = false := by simp; omega
            have e1 := Lib.hid (hnext.out (hok.out.2 ⟨by omega, by omega, fun _ => by omega⟩))
            clear hok hbad hnext
            go_wp2
            go_quiet (fail)
            go_wp2
            go_roundw
            case rel => exact ⟨k + 1, by omega, by go_num, e1.out, _, rfl⟩
            case measure => simp [intOf]; omega
    · have hall : Hid (rightB xs = true) := Lib.hid ((rightB_iff xs).2 fun i hi => HP.out i (by have := HLEN.out; omega))
      clear hr
      go_wp2
      go_ret
      exact ⟨ret_bool hall.out, _, rfl⟩

theorem refHas_any (A : Option Addr) (n c : Nat) (xs : List Int) (v : Int) (w : World) (hr : RI w w.heap.size A n xs) (hn : n ≤ maxLen) :
    Calls Try.prog 27 #[.slice A n c, .int .i64 v] w fun e w' => e = .returned (.bool (hasB xs v)) ∧ ∃ k, w' = w.drewN k := by
  cases hx : rightB xs with
  | false =>
    have HX := Lib.hid hx
    have HL : Hid (hasB xs v = false) := Lib.hid (by unfold hasB; rw [hx]; rfl)
    clear hx
    go_enter Try.func27, Try.ntmps27
    go_wp2_with fail
    refine (refRight_any _ _ _ xs _ _ hr hn).mono ?_
    rintro e w1 ⟨rfl, k, rfl⟩
    rw [HX.out]
    go_wp2
    go_ret
    exact ⟨ret_bool HL.out, k, rfl⟩
  | true =>
    have HX := Lib.hid hx
    have HL : Hid (hasB xs v = inB xs v) := Lib.hid (by unfold hasB inB; rw [hx]; rfl)
    clear hx
    go_enter Try.func27, Try.ntmps27
    go_wp2_with fail
    refine (refRight_any _ _ _ xs _ _ hr hn).mono ?_
    rintro e w1 ⟨rfl, k, rfl⟩
    rw [HX.out]
    go_wp2_with fail
    refine (in_any _ _ _ xs v _ _ (hr.drewN k) hn).mono ?_
    rintro e w2 ⟨rfl, rfl⟩
    go_wp2
    go_ret
    exact ⟨ret_bool HL.out, k, rfl⟩

end Go.Proofs.Ytlpogkcfjbabaaa
