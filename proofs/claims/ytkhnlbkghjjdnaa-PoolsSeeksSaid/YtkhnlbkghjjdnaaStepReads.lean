/- The reference's readers of a profile (bailiwickref03): at, Right, At, May, Least, Most, Same: what they answer of any list of steps. -/
import Derived.Test.YtkhnlbkghjjdnaaStepMem
import Derived.Test.YtkhnlbkghjjdnaaStepMath2
import Derived.LoopTactic
import Derived.Deep.QuietTactic
import Derived.BigQuiet
namespace Go.Proofs.Ytkhnlbkghjjdnaa
open Go.RowKit

theorem foldl_take {α β : Type} (f : β → α → β) (z : β) (l : List α) (d : α) (k : Nat) (h : k < l.length) : (l.take (k + 1)).foldl f z = f ((l.take k).foldl f z) (l.getD k d) := by
  rw [List.take_succ_eq_append_getElem h, List.foldl_append]
  simp [List.getD, h]
theorem RS.cells {w : World} {B n k : Nat} {A : Option Addr} {p : List (Int × Int)} (h : RS w B A n p) (hk : k < n) : ∃ b off, A = some ⟨b, off, none⟩ ∧ b < B ∧
    w.cell? ⟨b, off + k * 2, none⟩ = some (.int .i64 (p.getD k (0, 0)).1) ∧ w.cell? ⟨b, off + k * 2 + 1, none⟩ = some (.int .i64 (p.getD k (0, 0)).2) := by
  obtain ⟨b, off, e, hb, hc⟩ := h.2 (by omega)
  exact ⟨b, off, e, hb, (hc k hk).1, (hc k hk).2⟩

set_option maxRecDepth 100000 in
theorem refat_any (A : Option Addr) (n c : Nat) (p : List (Int × Int)) (t : Int) (w : World) (B : Nat) (hr : RS w B A n p) (hn : n ≤ 2000) :
    Calls Try.prog 36 #[.slice A n c, .int .i64 t] w fun e w' => e = .returned (.int .i64 (foldAt p t 0)) ∧ w = w' := by
  have HR := Lib.hid hr
  clear hr
  go_enter Try.func36, Try.ntmps36
  go_wp2
  go_loop [5, 6] (fun m i => ∃ k : Nat, k ≤ n ∧ i = .int .i64 k ∧ m = .int .i64 (foldAt (p.take k) t 0)) (fun _ i => n - (intOf i).toNat)
  case atStart => exact ⟨0, by omega, rfl, rfl⟩
  case round =>
    obtain ⟨k, hk, rfl, rfl⟩ := hrel
    by_cases hlt : k < n
    · obtain ⟨b, off, rfl, _, hc1, hc2⟩ := HR.out.cells hlt
      have hs : Hid (foldAt (p.take (k + 1)) t 0 = if (p.getD k (0, 0)).1 ≤ t then (p.getD k (0, 0)).2 else foldAt (p.take k) t 0) := Lib.hid (by
        unfold foldAt; rw [foldl_take _ _ _ (0, 0) _ (by rw [HR.out.1]; exact hlt)])
      generalize (p.getD k (0, 0)).1 = x at *
      generalize (p.getD k (0, 0)).2 = y at *
      by_cases hx : x ≤ t
      · go_wp2
        go_round
        case rel => exact ⟨k + 1, by omega, by go_num, by rw [hs.out, if_pos hx]⟩
        case measure => simp [intOf]; omega
      · go_wp2
        go_round
        case rel => exact ⟨k + 1, by omega, by go_num, by rw [hs.out, if_neg hx]⟩
        case measure => simp [intOf]; omega
    · have hkn : k = n := by omega
      subst hkn
      have hp : Hid (p.take k = p) := Lib.hid (List.take_of_length_le (by rw [HR.out.1]; exact Nat.le_refl _))
      go_wp2
      go_ret
      rw [hp.out]
      exact ⟨rfl, rfl⟩

def leastF (a b n : Int) (s : Int × Int) : Int := if a < s.1 ∧ s.1 < b ∧ s.2 < n then s.2 else n
def leastR (p : List (Int × Int)) (a b : Int) : Int := p.foldl (leastF a b) (foldAt p a 0)
set_option maxRecDepth 100000 in
set_option maxHeartbeats 1000000 in
theorem refleast_any (A : Option Addr) (n c : Nat) (p : List (Int × Int)) (a b : Int) (w : World) (B : Nat) (hr : RS w B A n p) (hn : n ≤ 2000) :
    Calls Try.prog 52 #[.slice A n c, .int .i64 a, .int .i64 b] w fun e w' => e = .returned (.int .i64 (leastR p a b)) ∧ w = w' := by
  have HR := Lib.hid hr
  clear hr
  go_enter Try.func52, Try.ntmps52
  go_wp2_with fail
  refine (refat_any _ _ _ p _ _ _ HR.out hn).mono ?_
  rintro e w1 ⟨rfl, rfl⟩
  go_wp2
  go_loop [7, 8] (fun m i => ∃ k : Nat, k ≤ n ∧ i = .int .i64 k ∧ m = .int .i64 ((p.take k).foldl (leastF a b) (foldAt p a 0))) (fun _ i => n - (intOf i).toNat)
  case atStart => exact ⟨0, by omega, rfl, rfl⟩
  case round =>
    obtain ⟨k, hk, rfl, rfl⟩ := hrel
    by_cases hlt : k < n
    · obtain ⟨b0, off, rfl, _, hc1, hc2⟩ := HR.out.cells hlt
      have hs : Hid ((p.take (k + 1)).foldl (leastF a b) (foldAt p a 0) = leastF a b ((p.take k).foldl (leastF a b) (foldAt p a 0)) (p.getD k (0, 0))) := Lib.hid (foldl_take _ _ _ (0, 0) _ (by rw [HR.out.1]; exact hlt))
      generalize (p.take k).foldl (leastF a b) (foldAt p a 0) = m at *
      have hf : Hid (leastF a b m (p.getD k (0, 0)) = if a < (p.getD k (0, 0)).1 ∧ (p.getD k (0, 0)).1 < b ∧ (p.getD k (0, 0)).2 < m then (p.getD k (0, 0)).2 else m) := Lib.hid rfl
      generalize (p.getD k (0, 0)).1 = x at *
      generalize (p.getD k (0, 0)).2 = y at *
      by_cases h1 : a < x
      · by_cases h2 : x < b
        · by_cases h3 : y < m
          · go_wp2
            go_round
            case rel => exact ⟨k + 1, by omega, by go_num, by rw [hs.out, hf.out, if_pos ⟨h1, h2, h3⟩]⟩
            case measure => simp [intOf]; omega
          · go_wp2
            go_round
            case rel => exact ⟨k + 1, by omega, by go_num, by rw [hs.out, hf.out, if_neg (fun h => h3 h.2.2)]⟩
            case measure => simp [intOf]; omega
        · go_wp2
          go_round
          case rel => exact ⟨k + 1, by omega, by go_num, by rw [hs.out, hf.out, if_neg (fun h => h2 h.2.1)]⟩
          case measure => simp [intOf]; omega
      · go_wp2
        go_round
        case rel => exact ⟨k + 1, by omega, by go_num, by rw [hs.out, hf.out, if_neg (fun h => h1 h.1)]⟩
        case measure => simp [intOf]; omega
    · have hkn : k = n := by omega
      subst hkn
      have hp : Hid ((p.take k).foldl (leastF a b) (foldAt p a 0) = leastR p a b) := Lib.hid (by unfold leastR; rw [List.take_of_length_le (by rw [HR.out.1]; exact Nat.le_refl _)])
      go_wp2
      go_ret
      rw [hp.out]
      exact ⟨rfl, rfl⟩
theorem leastR_is {p : List (Int × Int)} (hp : Canon p) {a b : Int} (h0 : 0 ≤ a) : leastR p a b = leastL p a b := by
  unfold leastR leastL
  rw [foldAt_canon hp h0]
  rfl

def mostF (a b n : Int) (s : Int × Int) : Int := if a < s.1 ∧ s.1 < b ∧ n < s.2 then s.2 else n
def mostR (p : List (Int × Int)) (a b : Int) : Int := p.foldl (mostF a b) (foldAt p a 0)
set_option maxRecDepth 100000 in
set_option maxHeartbeats 1000000 in
theorem refmost_any (A : Option Addr) (n c : Nat) (p : List (Int × Int)) (a b : Int) (w : World) (B : Nat) (hr : RS w B A n p) (hn : n ≤ 2000) :
    Calls Try.prog 54 #[.slice A n c, .int .i64 a, .int .i64 b] w fun e w' => e = .returned (.int .i64 (mostR p a b)) ∧ w = w' := by
  have HR := Lib.hid hr
  clear hr
  go_enter Try.func54, Try.ntmps54
  go_wp2_with fail
  refine (refat_any _ _ _ p _ _ _ HR.out hn).mono ?_
  rintro e w1 ⟨rfl, rfl⟩
  go_wp2
  go_loop [7, 8] (fun m i => ∃ k : Nat, k ≤ n ∧ i = .int .i64 k ∧ m = .int .i64 ((p.take k).foldl (mostF a b) (foldAt p a 0))) (fun _ i => n - (intOf i).toNat)
  case atStart => exact ⟨0, by omega, rfl, rfl⟩
  case round =>
    obtain ⟨k, hk, rfl, rfl⟩ := hrel
    by_cases hlt : k < n
    · obtain ⟨b0, off, rfl, _, hc1, hc2⟩ := HR.out.cells hlt
      have hs : Hid ((p.take (k + 1)).foldl (mostF a b) (foldAt p a 0) = mostF a b ((p.take k).foldl (mostF a b) (foldAt p a 0)) (p.getD k (0, 0))) := Lib.hid (foldl_take _ _ _ (0, 0) _ (by rw [HR.out.1]; exact hlt))
      generalize (p.take k).foldl (mostF a b) (foldAt p a 0) = m at *
      have hf : Hid (mostF a b m (p.getD k (0, 0)) = if a < (p.getD k (0, 0)).1 ∧ (p.getD k (0, 0)).1 < b ∧ m < (p.getD k (0, 0)).2 then (p.getD k (0, 0)).2 else m) := Lib.hid rfl
      generalize (p.getD k (0, 0)).1 = x at *
      generalize (p.getD k (0, 0)).2 = y at *
      by_cases h1 : a < x
      · by_cases h2 : x < b
        · by_cases h3 : m < y
          · go_wp2
            go_round
            case rel => exact ⟨k + 1, by omega, by go_num, by rw [hs.out, hf.out, if_pos ⟨h1, h2, h3⟩]⟩
            case measure => simp [intOf]; omega
          · go_wp2
            go_round
            case rel => exact ⟨k + 1, by omega, by go_num, by rw [hs.out, hf.out, if_neg (fun h => h3 h.2.2)]⟩
            case measure => simp [intOf]; omega
        · go_wp2
          go_round
          case rel => exact ⟨k + 1, by omega, by go_num, by rw [hs.out, hf.out, if_neg (fun h => h2 h.2.1)]⟩
          case measure => simp [intOf]; omega
      · go_wp2
        go_round
        case rel => exact ⟨k + 1, by omega, by go_num, by rw [hs.out, hf.out, if_neg (fun h => h1 h.1)]⟩
        case measure => simp [intOf]; omega
    · have hkn : k = n := by omega
      subst hkn
      have hp : Hid ((p.take k).foldl (mostF a b) (foldAt p a 0) = mostR p a b) := Lib.hid (by unfold mostR; rw [List.take_of_length_le (by rw [HR.out.1]; exact Nat.le_refl _)])
      go_wp2
      go_ret
      rw [hp.out]
      exact ⟨rfl, rfl⟩
theorem mostR_is {p : List (Int × Int)} (hp : Canon p) {a b : Int} (h0 : 0 ≤ a) : mostR p a b = mostL p a b := by
  unfold mostR mostL
  rw [foldAt_canon hp h0]
  rfl

/-! ### Right -/
def stepOk (p : List (Int × Int)) (i : Nat) : Prop :=
  0 ≤ (p.getD i (0, 0)).2 ∧ (p.getD i (0, 0)).2 ≤ 1048576 ∧ 0 ≤ (p.getD i (0, 0)).1 ∧ (p.getD i (0, 0)).1 ≤ 4611686018427387904 ∧
    (0 < i → (p.getD (i - 1) (0, 0)).1 < (p.getD i (0, 0)).1 ∧ (p.getD i (0, 0)).2 ≠ (p.getD (i - 1) (0, 0)).2)
instance (p : List (Int × Int)) (i : Nat) : Decidable (stepOk p i) := by unfold stepOk; infer_instance
def rightP (p : List (Int × Int)) : Bool := decide (p ≠ [] ∧ p.length ≤ 1024 ∧ (p.getD 0 (0, 0)).1 = 0 ∧ ∀ i, i < p.length → stepOk p i)
theorem rightP_no {p : List (Int × Int)} {i : Nat} (hi : i < p.length) (h : ¬ stepOk p i) : rightP p = false := by
  unfold rightP
  rw [decide_eq_false_iff_not]
  exact fun h' => h (h'.2.2.2 i hi)

set_option maxRecDepth 100000 in
set_option maxHeartbeats 4000000 in
theorem refRightS_any (A : Option Addr) (n c : Nat) (p : List (Int × Int)) (w : World) (B : Nat) (hr : RS w B A n p) (hn : n ≤ maxLen) :
    Calls Try.prog 35 #[.slice A n c] w fun e w' => e = .returned (.bool (rightP p)) ∧ ∃ k, w' = w.drewN k := by
  unfold maxLen at hn
  have HR := Lib.hid hr
  clear hr
  by_cases h0 : n = 0
  · have hP : Hid (rightP p = false) := Lib.hid (by unfold rightP; rw [decide_eq_false_iff_not]; exact fun h => h.1 (List.eq_nil_of_length_eq_zero (by rw [HR.out.1]; exact h0)))
    rw [hP.out]
    subst h0
    go_enter Try.func35, Try.ntmps35
    go_wp2
    go_ret
    exact ⟨rfl, 0, rfl⟩
  by_cases h1024 : 1024 < n
  · have hP : Hid (rightP p = false) := Lib.hid (by unfold rightP; rw [decide_eq_false_iff_not]; exact fun h => by have := h.2.1; rw [HR.out.1] at this; omega)
    rw [hP.out]
    go_enter Try.func35, Try.ntmps35
    go_wp2
    go_ret
    exact ⟨rfl, 0, rfl⟩
  have hc0 := (HR.out.2 (by omega))
  obtain ⟨b, off, rfl, _, hcells⟩ := hc0
  have HC := Lib.hid hcells
  clear hcells
  have hd1 : ((n : Int) == 0) = false := by simp; omega
  have hd2 : decide ((1024 : Int) < (n : Int)) = false := by simp; omega
  by_cases hz : (p.getD 0 (0, 0)).1 = 0
  · have hz0 := (HC.out 0 (by omega)).1
    rw [hz] at hz0
    simp only [Nat.zero_mul, Nat.add_zero] at hz0
    go_enter Try.func35, Try.ntmps35
    go_wp2
    clear hz0 hd1 hd2
    go_loopw [3] (fun i wr => ∃ k : Nat, k ≤ n ∧ i = .int .i64 k ∧ (∀ i, i < k → stepOk p i) ∧ ∃ q, wr = w.drewN q) (fun i _ => n - (intOf i).toNat)
    case atStart => exact ⟨0, Nat.zero_le _, rfl, fun i hi => absurd hi (by omega), 0, rfl⟩
    case round =>
      obtain ⟨k, hk, rfl, hpre, q, rfl⟩ := hrel
      have HP := Lib.hid hpre
      clear hpre
      by_cases hlt : k < n
      · have hck1 := (HC.out k hlt).1
        have hck2 := (HC.out k hlt).2
        have hcp1 := (HC.out (k - 1) (by omega)).1
        have hcp2 := (HC.out (k - 1) (by omega)).2
        have hok : Hid (stepOk p k ↔ (0 ≤ (p.getD k (0, 0)).2 ∧ (p.getD k (0, 0)).2 ≤ 1048576 ∧ 0 ≤ (p.getD k (0, 0)).1 ∧ (p.getD k (0, 0)).1 ≤ 4611686018427387904 ∧ (0 < k → (p.getD (k - 1) (0, 0)).1 < (p.getD k (0, 0)).1 ∧ (p.getD k (0, 0)).2 ≠ (p.getD (k - 1) (0, 0)).2))) := Lib.hid Iff.rfl
        have hbad : Hid (¬ stepOk p k → rightP p = false) := Lib.hid (rightP_no (by rw [HR.out.1]; exact hlt))
        have hnext : Hid (stepOk p k → ∀ i, i < k + 1 → stepOk p i) := Lib.hid (by
          intro h i hi
          rcases Nat.lt_or_ge i k with h' | h'
          · exact HP.out i h'
          · obtain rfl : i = k := by omega
            exact h)
        generalize (p.getD k (0, 0)).1 = x at *
        generalize (p.getD k (0, 0)).2 = y at *
        generalize (p.getD (k - 1) (0, 0)).1 = x' at *
        generalize (p.getD (k - 1) (0, 0)).2 = y' at *
        by_cases h1 : y < 0
        · have e1 : Hid (rightP p = false) := Lib.hid (hbad.out (fun h => by have := hok.out.1 h; omega))
          clear hok hbad hnext
          go_wp2
          go_ret
          exact ⟨ret_bool e1.out, _, rfl⟩
        · have d1 : decide (y < 0) = false := by simpa using h1
          by_cases h2 : 1048576 < y
          · have e1 : Hid (rightP p = false) := Lib.hid (hbad.out (fun h => by have := hok.out.1 h; omega))
            clear hok hbad hnext
            go_wp2
            go_ret
            exact ⟨ret_bool e1.out, _, rfl⟩
          · have d2 : decide (1048576 < y) = false := by simpa using h2
            by_cases h3 : x < 0
            · have e1 : Hid (rightP p = false) := Lib.hid (hbad.out (fun h => by have := hok.out.1 h; omega))
              clear hok hbad hnext
              go_wp2
              go_ret
              exact ⟨ret_bool e1.out, _, rfl⟩
            · have d3 : decide (x < 0) = false := by simpa using h3
              by_cases h4 : 4611686018427387904 < x
              · have e1 : Hid (rightP p = false) := Lib.hid (hbad.out (fun h => by have := hok.out.1 h; omega))
                clear hok hbad hnext
                go_wp2
                go_ret
                exact ⟨ret_bool e1.out, _, rfl⟩
              · have d4 : decide (4611686018427387904 < x) = false := by simpa using h4
                by_cases h5 : 0 < k
                · by_cases h6 : x ≤ x'
                  · have e1 : Hid (rightP p = false) := Lib.hid (hbad.out (fun h => by have := hok.out.1 h; omega))
                    clear hok hbad hnext
                    go_wp2
                    go_quiet (fail)
                    go_wp2
                    go_ret
                    exact ⟨ret_bool e1.out, _, World.drewN_drewN _ _ _⟩
                  · have d6 : decide (x ≤ x') = false := by simpa using h6
                    by_cases h7 : y = y'
                    · have d7 : (y == y') = true := by simpa using h7
                      have e1 : Hid (rightP p = false) := Lib.hid (hbad.out (fun h => by have := hok.out.1 h; omega))
                      clear hok hbad hnext
                      go_wp2
                      go_quiet (fail)
                      go_wp2
                      go_ret
                      exact ⟨ret_bool e1.out, _, World.drewN_drewN _ _ _⟩
                    · have d7 : (y == y') = false := by simpa using h7
                      have e1 := Lib.hid (hnext.out (hok.out.2 ⟨by omega, by omega, by omega, by omega, fun _ => ⟨by omega, h7⟩⟩))
                      clear hok hbad hnext
                      go_wp2
                      go_quiet (fail)
                      go_wp2
                      go_roundw
                      case rel => exact ⟨k + 1, by omega, by go_num, e1.out, _, rfl⟩
                      case measure => simp [intOf]; omega
                · have d5 : decide ((0 : Int) < (k : Int)) = false := by simp; omega
                  have e1 := Lib.hid (hnext.out (hok.out.2 ⟨by omega, by omega, by omega, by omega, fun h => absurd h h5⟩))
                  clear hok hbad hnext
                  go_wp2
                  go_quiet (fail)
                  go_wp2
                  go_roundw
                  case rel => exact ⟨k + 1, by omega, by go_num, e1.out, _, rfl⟩
                  case measure => simp [intOf]; omega
      · have hall : Hid (rightP p = true) := Lib.hid (by
          unfold rightP
          rw [decide_eq_true_eq]
          exact ⟨fun h => by have := HR.out.1; rw [h] at this; simp at this; omega, by rw [HR.out.1]; omega, hz, fun i hi => HP.out i (by have := HR.out.1; omega)⟩)
        go_wp2
        go_ret
        exact ⟨ret_bool hall.out, _, rfl⟩
  · have hP : Hid (rightP p = false) := Lib.hid (by unfold rightP; rw [decide_eq_false_iff_not]; exact fun h => hz h.2.2.1)
    have hz0 := (HC.out 0 (by omega)).1
    simp only [Nat.zero_mul, Nat.add_zero] at hz0
    generalize (p.getD 0 (0, 0)).1 = z at *
    have hzd : (z != 0) = true := by simpa using hz
    rw [hP.out]
    go_enter Try.func35, Try.ntmps35
    go_wp2
    go_ret
    exact ⟨rfl, 0, rfl⟩

end Go.Proofs.Ytkhnlbkghjjdnaa
