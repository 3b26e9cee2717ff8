/- The reference's readers of pools (bailiwickref04): Right, Same: what they answer of any list of profiles. -/
import Derived.Test.YtkhnlbkghjjdnaaPoolsMem
namespace Go.Proofs.Ytkhnlbkghjjdnaa
open Go.RowKit

def rightPP (ls : List (List (Int × Int))) : Bool := decide (ls ≠ [] ∧ ls.length ≤ 4 ∧ ∀ j, j < ls.length → rightP (ls.getD j []) = true)
theorem rightPP_no {ls : List (List (Int × Int))} {i : Nat} (hi : i < ls.length) (h : rightP (ls.getD i []) = false) : rightPP ls = false := by
  unfold rightPP
  rw [decide_eq_false_iff_not]
  exact fun h' => by rw [h'.2.2 i hi] at h; cases h
theorem rightPP_long {ls : List (List (Int × Int))} (h : 4 < ls.length) : rightPP ls = false := by
  unfold rightPP
  rw [decide_eq_false_iff_not]
  exact fun h' => by have := h'.2.1; omega

set_option maxRecDepth 100000 in
set_option maxHeartbeats 1000000 in
theorem refRightPP_any (A : Option Addr) (n c : Nat) (ls : List (List (Int × Int))) (w : World) (hr : RSS w w.heap.size A n ls) (hn : n ≤ maxLen) :
    Calls Try.prog 15 #[.slice A n c] w fun e w' => e = .returned (.bool (rightPP ls)) ∧ Below w.heap.size w w' := by
  unfold maxLen at hn
  have HR := Lib.hid hr
  clear hr
  go_enter Try.func15, Try.ntmps15
  go_wp2
  go_loopw [3] (fun i wr => ∃ k : Nat, k ≤ n ∧ k ≤ 4 ∧ i = .int .i64 k ∧ (∀ j, j < k → rightP (ls.getD j []) = true) ∧ Below w.heap.size w wr) (fun i _ => n - (intOf i).toNat)
  case atStart => exact ⟨0, Nat.zero_le _, by omega, rfl, fun i hi => absurd hi (by omega), Below.refl _ _⟩
  case round =>
    obtain ⟨k, hk, hk4, rfl, hpre, hb⟩ := hrel
    have HP := Lib.hid hpre
    have HB := Lib.hid hb
    clear hpre hb
    by_cases hlt : k < n
    · by_cases h3 : 3 < k
      · have hF : Hid (rightPP ls = false) := Lib.hid (rightPP_long (by rw [HR.out.len]; omega))
        go_wp2
        go_ret
        exact ⟨ret_bool hF.out, HB.out⟩
      · have hRn := Lib.hid (HR.out.next HB.out)
        obtain ⟨b, off, A', m, c', rfl, _, hc, hr', _, _, hm⟩ := hRn.out.one hlt
        have HR' := Lib.hid hr'
        clear hr'
        have hno : Hid (rightP (ls.getD k []) = false → rightPP ls = false) := Lib.hid (rightPP_no (by rw [HR.out.len]; exact hlt))
        have hnext : Hid (rightP (ls.getD k []) = true → ∀ j, j < k + 1 → rightP (ls.getD j []) = true) := Lib.hid (by
          intro h j hj
          rcases Nat.lt_or_ge j k with h' | h'
          · exact HP.out j h'
          · obtain rfl : j = k := by omega
            exact h)
        go_wp2_with fail
        refine (refRightS_any _ _ _ _ _ _ HR'.out hm).mono ?_
        rintro e w1 ⟨rfl, q, rfl⟩
        have HB1 := Lib.hid (HB.out.trans ((bel_drew wr q).mono HB.out.size))
        clear hc
        generalize rightP (ls.getD k []) = r at *
        cases r with
        | false =>
          have e1 := Lib.hid (hno.out rfl)
          clear hno hnext
          go_wp2
          go_ret
          exact ⟨ret_bool e1.out, HB1.out⟩
        | true =>
          have e1 := Lib.hid (hnext.out rfl)
          clear hno hnext
          go_wp2
          go_roundw
          case rel => exact ⟨k + 1, by omega, by omega, by go_num, e1.out, HB1.out⟩
          case measure => simp [intOf]; omega
    · have hkn : k = n := by omega
      subst hkn
      by_cases h0 : k = 0
      · have hF : Hid (rightPP ls = false) := Lib.hid (by unfold rightPP; rw [decide_eq_false_iff_not]; exact fun h => h.1 (List.eq_nil_of_length_eq_zero (by rw [HR.out.len]; exact h0)))
        subst h0
        go_wp2
        go_ret
        exact ⟨ret_bool hF.out, HB.out⟩
      · have hF : Hid (rightPP ls = true) := Lib.hid (by
          unfold rightPP
          rw [decide_eq_true_eq]
          exact ⟨fun h => by have := HR.out.len; rw [h] at this; exact h0 this.symm, by rw [HR.out.len]; omega, fun j hj => HP.out j (by rw [HR.out.len] at hj; exact hj)⟩)
        have hk0 : 0 < k := by omega
        go_wp2
        go_ret
        exact ⟨ret_bool hF.out, HB.out⟩

set_option maxRecDepth 100000 in
set_option maxHeartbeats 1000000 in
/-- Same, of two that are the same -/
theorem refSamePP_any (A A' : Option Addr) (n c n' c' : Nat) (ls : List (List (Int × Int))) (w : World) (hr : RSS w w.heap.size A n ls) (hr' : RSS w w.heap.size A' n' ls) (hn : n ≤ maxLen) :
    Calls Try.prog 16 #[.slice A n c, .slice A' n' c'] w fun e w' => e = .returned (.bool true) ∧ Below w.heap.size w w' := by
  unfold maxLen at hn
  have hnn : n' = n := by rw [← hr.len, ← hr'.len]
  subst hnn
  have HR := Lib.hid hr
  have HR' := Lib.hid hr'
  clear hr hr'
  go_enter Try.func16, Try.ntmps16
  go_wp2
  go_loopw [5] (fun i wr => ∃ k : Nat, k ≤ n' ∧ i = .int .i64 k ∧ Below w.heap.size w wr) (fun i _ => n' - (intOf i).toNat)
  case atStart => exact ⟨0, Nat.zero_le _, rfl, Below.refl _ _⟩
  case round =>
    obtain ⟨k, hk, rfl, hb⟩ := hrel
    have HB := Lib.hid hb
    clear hb
    by_cases hlt : k < n'
    · have hRn := Lib.hid (HR.out.next HB.out)
      have hRn' := Lib.hid (HR'.out.next HB.out)
      obtain ⟨b, off, A1, m, c1, rfl, _, hc, hr, _, _, hm⟩ := hRn.out.one hlt
      obtain ⟨b', off', A1', m', c1', rfl, _, hc', hr', _, _, hm'⟩ := hRn'.out.one hlt
      have HS := Lib.hid hr
      have HS' := Lib.hid hr'
      clear hr hr'
      have hq : Hid (sameP (ls.getD k []) (ls.getD k []) = true) := Lib.hid (by unfold sameP; exact decide_eq_true rfl)
      have HSAME : Hid (∀ q, Calls Try.prog 28 #[.slice A1 m c1, .slice A1' m' c1'] (wr.drewN q) fun e w' => e = .returned (.bool true) ∧ ∃ k, w' = (wr.drewN q).drewN k) :=
        Lib.hid (fun q => (refSameS_any _ _ _ _ _ _ _ _ _ _ _ (HS.out.drewN q) (HS'.out.drewN q) hm hm').mono (fun _ _ ⟨h1, h2⟩ => ⟨h1.trans (congrArg (fun x => Ending.returned (Value.bool x)) hq.out), h2⟩))
      go_wp2
      go_quiet ((go_at_call 28; exact Calls.quiet_of (HSAME.out _)))
      go_wp2
      go_roundw
      case rel => exact ⟨k + 1, by omega, by go_num, HB.out.trans ((bel_drew wr _).mono HB.out.size)⟩
      case measure => simp [intOf]; omega
    · go_wp2
      go_ret
      exact ⟨rfl, HB.out⟩

end Go.Proofs.Ytkhnlbkghjjdnaa
