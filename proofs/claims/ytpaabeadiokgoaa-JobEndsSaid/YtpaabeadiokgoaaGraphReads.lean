/- The reference's readers of a graph (bailiwickref05): Tag, Right, Over: what they answer of any list of things. -/
import Derived.Test.YtpaabeadiokgoaaGraphWords
import Derived.LoopTactic
import Derived.Deep.QuietTactic
import Derived.BigQuiet
namespace Go.Proofs.Ytpaabeadiokgoaa
open Go.RowKit


set_option maxRecDepth 100000 in
set_option maxHeartbeats 2000000 in
theorem refTag_any (s : ByteArray) (w : World) (hs : s.size ≤ maxLen) :
    Calls Try.prog 28 #[.string s] w fun e w' => e = .returned (.bool (tagB s)) ∧ w = w' := by
  unfold maxLen at hs
  go_enter Try.func28, Try.ntmps28
  go_wp2
  go_loop [3] (fun i => ∃ k : Nat, k ≤ s.size ∧ i = .int .i64 k ∧ (s.data.toList.take k).all tagC = true) (fun i => s.size - (intOf i).toNat)
  case atStart => exact ⟨0, Nat.zero_le _, rfl, rfl⟩
  case round =>
    obtain ⟨k, hk, rfl, hpre⟩ := hrel
    have HP := Lib.hid hpre
    clear hpre
    by_cases hlt : k < s.size
    · have hs1 := Lib.hid (bytes_snoc s k hlt)
      have hno : Hid (tagC s[k] = false → tagB s = false) := Lib.hid (fun h => by
        unfold tagB
        have : s.data.toList.all tagC = false := by
          rw [List.all_eq_false]
          exact ⟨s[k], Array.getElem_mem_toList _, by rw [h]; simp⟩
        rw [this]; rfl)
      have hyes : Hid (tagC s[k] = true → (s.data.toList.take (k + 1)).all tagC = true) := Lib.hid (fun h => by rw [hs1.out, List.all_append, HP.out]; simp [h])
      have hC : Hid (tagC s[k] = ((97 ≤ s[k].toNat && s[k].toNat ≤ 122) || (48 ≤ s[k].toNat && s[k].toNat ≤ 57))) := Lib.hid rfl
      rcases (show s[k].toNat < 48 ∨ (48 ≤ s[k].toNat ∧ s[k].toNat ≤ 57) ∨ (57 < s[k].toNat ∧ s[k].toNat < 97) ∨ (97 ≤ s[k].toNat ∧ s[k].toNat ≤ 122) ∨ 122 < s[k].toNat by omega) with h | ⟨h, h'⟩ | ⟨h, h'⟩ | ⟨h, h'⟩ | h
      · have e1 := Lib.hid (hno.out (by rw [hC.out]; simp; omega))
        clear hno hyes hC hs1
        have d0 : decide (48 ≤ (s[k].toNat : Int)) = false := by simp; omega
        have d1 : decide ((s[k].toNat : Int) ≤ 57) = true := by simp; omega
        have d2 : decide (97 ≤ (s[k].toNat : Int)) = false := by simp; omega
        have d3 : decide ((s[k].toNat : Int) ≤ 122) = true := by simp; omega
        go_wp2
        go_ret
        exact ⟨ret_bool e1.out, rfl⟩
      · have e1 := Lib.hid (hyes.out (by rw [hC.out]; simp; omega))
        clear hno hyes hC hs1
        have d0 : decide (48 ≤ (s[k].toNat : Int)) = true := by simp; omega
        have d1 : decide ((s[k].toNat : Int) ≤ 57) = true := by simp; omega
        have d2 : decide (97 ≤ (s[k].toNat : Int)) = false := by simp; omega
        have d3 : decide ((s[k].toNat : Int) ≤ 122) = true := by simp; omega
        go_wp2
        go_round
        case rel => exact ⟨k + 1, by omega, by go_num, e1.out⟩
        case measure => simp [intOf]; omega
      · have e1 := Lib.hid (hno.out (by rw [hC.out]; simp; omega))
        clear hno hyes hC hs1
        have d0 : decide (48 ≤ (s[k].toNat : Int)) = true := by simp; omega
        have d1 : decide ((s[k].toNat : Int) ≤ 57) = false := by simp; omega
        have d2 : decide (97 ≤ (s[k].toNat : Int)) = false := by simp; omega
        have d3 : decide ((s[k].toNat : Int) ≤ 122) = true := by simp; omega
        go_wp2
        go_ret
        exact ⟨ret_bool e1.out, rfl⟩
      · have e1 := Lib.hid (hyes.out (by rw [hC.out]; simp; omega))
        clear hno hyes hC hs1
        have d0 : decide (48 ≤ (s[k].toNat : Int)) = true := by simp; omega
        have d1 : decide ((s[k].toNat : Int) ≤ 57) = false := by simp; omega
        have d2 : decide (97 ≤ (s[k].toNat : Int)) = true := by simp; omega
        have d3 : decide ((s[k].toNat : Int) ≤ 122) = true := by simp; omega
        go_wp2
        go_round
        case rel => exact ⟨k + 1, by omega, by go_num, e1.out⟩
        case measure => simp [intOf]; omega
      · have e1 := Lib.hid (hno.out (by rw [hC.out]; simp; omega))
        clear hno hyes hC hs1
        have d0 : decide (48 ≤ (s[k].toNat : Int)) = true := by simp; omega
        have d1 : decide ((s[k].toNat : Int) ≤ 57) = false := by simp; omega
        have d2 : decide (97 ≤ (s[k].toNat : Int)) = true := by simp; omega
        have d3 : decide ((s[k].toNat : Int) ≤ 122) = false := by simp; omega
        go_wp2
        go_ret
        exact ⟨ret_bool e1.out, rfl⟩
    · have hkn : k = s.size := by omega
      have hA : Hid (s.data.toList.all tagC = true) := Lib.hid (by have := HP.out; rwa [List.take_of_length_le (by simp; omega)] at this)
      by_cases h16 : s.size ≤ 16
      · have e1 : Hid (tagB s = true) := Lib.hid (by unfold tagB; rw [hA.out, decide_eq_true h16]; rfl)
        have h16d : decide ((s.size : Int) ≤ 16) = true := by simp; omega
        clear hkn
        go_wp2
        go_ret
        exact ⟨ret_bool e1.out, rfl⟩
      · have e1 : Hid (tagB s = false) := Lib.hid (by unfold tagB; rw [decide_eq_false h16, Bool.and_false])
        have h16d : decide ((s.size : Int) ≤ 16) = false := by simp; omega
        clear hkn
        go_wp2
        go_ret
        exact ⟨ret_bool e1.out, rfl⟩
theorem refTag_b {s : ByteArray} {w : World} {b : Bool} (hs : s.size ≤ maxLen) (h : tagB s = b) : Calls Try.prog 28 #[.string s] w fun e w' => e = .returned (.bool b) ∧ w = w' := by
  subst h; exact refTag_any s w hs



end Go.Proofs.Ytpaabeadiokgoaa
