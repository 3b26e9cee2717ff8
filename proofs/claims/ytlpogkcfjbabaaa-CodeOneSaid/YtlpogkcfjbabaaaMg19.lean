/- The reference's num and got of layer 8 (bailiwickref08): a number put as bytes, and read: what they answer. The reference's readers of a graph (bailiwickref05): Tag, Right, Over: what they answer of any list of things. -/
import Derived.LoopTactic
import Derived.Deep.QuietTactic
import Derived.BigQuiet
import Derived.Test.YtlpogkcfjbabaaaMg03
import Derived.Test.YtlpogkcfjbabaaaMg04
import Derived.Test.YtlpogkcfjbabaaaMg05
namespace Go.Proofs.Ytlpogkcfjbabaaa
open Go.RowKit

def NumPost (n : Nat) (w : World) (e : Ending) (w' : World) : Prop := ∃ v, e = .returned v ∧ ON EB 1 5 w v (numB n) w'
set_option maxRecDepth 100000 in
set_option maxHeartbeats 2000000 in
theorem refNum_any : ∀ (n : Nat) (w : World), n < 18446744073709551616 → Calls Try.prog 24 #[.int .u64 (n : Int)] w (NumPost n w) := by
  intro n
  induction n using Nat.strongRecOn with
  | _ n ih =>
    intro w hn
    obtain ⟨i0, hi0, hz0, hz1, hz2⟩ := info_parts byte_info
    have IH := Lib.hid ih
    clear ih
    by_cases h : n < 128
    · have HX := Lib.hid (onb_one (t := 5) w n (by omega))
      have HN := Lib.hid (numB_low h)
      go_enter Try.func24, Try.ntmps24
      go_wp2
      go_ret
      exact ⟨_, rfl, by rw [HN.out]; exact HX.out⟩
    · obtain ⟨m, hm⟩ : ∃ m, n / 128 = m := ⟨_, rfl⟩
      obtain ⟨r, hr⟩ : ∃ r, n % 128 = r := ⟨_, rfl⟩
      have hr1 : r < 128 := by omega
      have HN : Hid (numB n = [UInt8.ofNat (r + 128)] ++ numB m) := Lib.hid (by rw [numB_high h, hm, hr]; rfl)
      have HLE : Hid (([UInt8.ofNat (r + 128)] : Bs).length + (numB m).length ≤ 1000000) := Lib.hid (by have := numB_len (n := m) (by omega); simp; omega)
      have hd : (n : Int) / 128 = (m : Int) := by omega
      have hr2 : (n : Int) % 128 = (r : Int) := by omega
      have HX : Hid (ON EB 1 5 w (.slice (some ⟨w.heap.size, 0, none⟩) 1 1) [UInt8.ofNat (r + 128)] (w.alloc (.cells #[.int .u8 ((r : Int) + 128)] 5))) := Lib.hid (by
        have := onb_one (t := 5) w (r + 128) (by omega)
        rw [show ((r + 128 : Nat) : Int) = (r : Int) + 128 by omega] at this
        exact this)
      have HC := Lib.hid (IH.out m (by omega) (w.alloc (.cells #[.int .u8 ((r : Int) + 128)] 5)) (by omega))
      have hb1 : (r : Int) + 128 < 256 := by omega
      have hnd : decide ((n : Int) < 128) = false := by simp; omega
      clear hm hr h IH
      go_enter Try.func24, Try.ntmps24
      go_wp2_with fail
      refine (HC.out).mono ?_
      rintro e w2 ⟨v, rfl, hv⟩
      obtain ⟨A, c, rfl, hnil, hcap⟩ := hv.form
      have HV := Lib.hid (hv.reads eb_steady (by omega) rfl)
      have HO := Lib.hid (HX.out.next eb_steady hv.below)
      clear hv
      go_wp2_with (at_builtin; refine wpList_append_RB rfl (.tmp 12) (.tmp 15) 28 5 rfl HO.out i0 Try.underlying28 hi0 hz0 hz1 hz2 rfl _ A _ c rfl HV.out hnil HLE.out ?_; intro v' w4 hON4; refine Hid.out ?_)
      refine Lib.hid ?_
      have HO4 := Lib.hid hON4
      clear hON4
      go_wp2
      go_ret
      exact ⟨_, rfl, by rw [HN.out]; exact HO4.out⟩

end Go.Proofs.Ytlpogkcfjbabaaa

namespace Go.Proofs.Ytlpogkcfjbabaaa
open Go.RowKit


set_option maxRecDepth 100000 in
set_option maxHeartbeats 2000000 in
theorem refTag_any (s : ByteArray) (w : World) (hs : s.size ≤ maxLen) :
    Calls Try.prog 45 #[.string s] w fun e w' => e = .returned (.bool (tagB s)) ∧ w = w' := by
  unfold maxLen at hs
  go_enter Try.func45, Try.ntmps45
  go_wp2
  go_loop [3] (fun i => ∃ k : Nat, k ≤ s.size ∧ i = .int .i64 k ∧ (s.data.toList.take k).all tagC = true) (fun i => s.size - (intOf i).toNat)
  case atStart => exact ⟨0, Nat.zero_le _, rfl, rfl⟩
  case round =>
    obtain ⟨k, hk, rfl, hpre⟩ := hrel
    have HP := Lib.hid hpre
    clear hpre
    by_cases hlt : k < s.size
    · have hs1 := Lib.hid (bytes_snoc s k hlt)
      have hno : Hid (tagC s[k] = false → tagB s = false) := Lib.hid (fun h => by
        unfold tagB
        have : s.data.toList.all tagC = false := by
          rw [List.all_eq_false]
          exact ⟨s[k], Array.getElem_mem_toList _, by rw [h]; simp⟩
        rw [this]; rfl)
      have hyes : Hid (tagC s[k] = true → (s.data.toList.take (k + 1)).all tagC = true) := Lib.hid (fun h => by rw [hs1.out, List.all_append, HP.out]; simp [h])
      have hC : Hid (tagC s[k] = ((97 ≤ s[k].toNat && s[k].toNat ≤ 122) || (48 ≤ s[k].toNat && s[k].toNat ≤ 57))) := Lib.hid rfl
      rcases (show s[k].toNat < 48 ∨ (48 ≤ s[k].toNat ∧ s[k].toNat ≤ 57) ∨ (57 < s[k].toNat ∧ s[k].toNat < 97) ∨ (97 ≤ s[k].toNat ∧ s[k].toNat ≤ 122) ∨ 122 < s[k].toNat by omega) with h | ⟨h, h'⟩ | ⟨h, h'⟩ | ⟨h, h'⟩ | h
      · have e1 := Lib.hid (hno.out (by rw [hC.out]; simp; omega))
        clear hno hyes hC hs1
        have d0 : decide (48 ≤ (s[k].toNat : Int)) = false := by simp; omega
        have d1 : decide ((s[k].toNat : Int) ≤ 57) = true := by simp; omega
        have d2 : decide (97 ≤ (s[k].toNat : Int)) = false := by simp; omega
        have d3 : decide ((s[k].toNat : Int) ≤ 122) = true := by simp; omega
        go_wp2
        go_ret
        exact ⟨ret_bool e1.out, rfl⟩
      · have e1 := Lib.hid (hyes.out (by rw [hC.out]; simp; omega))
        clear hno hyes hC hs1
        have d0 : decide (48 ≤ (s[k].toNat : Int)) = true := by simp; omega
        have d1 : decide ((s[k].toNat : Int) ≤ 57) = true := by simp; omega
        have d2 : decide (97 ≤ (s[k].toNat : Int)) = false := by simp; omega
        have d3 : decide ((s[k].toNat : Int) ≤ 122) = true := by simp; omega
        go_wp2
        go_round
        case rel => exact ⟨k + 1, by omega, by go_num, e1.out⟩
        case measure => simp [intOf]; omega
      · have e1 := Lib.hid (hno.out (by rw [hC.out]; simp; omega))
        clear hno hyes hC hs1
        have d0 : decide (48 ≤ (s[k].toNat : Int)) = true := by simp; omega
        have d1 : decide ((s[k].toNat : Int) ≤ 57) = false := by simp; omega
        have d2 : decide (97 ≤ (s[k].toNat : Int)) = false := by simp; omega
        have d3 : decide ((s[k].toNat : Int) ≤ 122) = true := by simp; omega
        go_wp2
        go_ret
        exact ⟨ret_bool e1.out, rfl⟩
      · have e1 := Lib.hid (hyes.out (by rw [hC.out]; simp; omega))
        clear hno hyes hC hs1
        have d0 : decide (48 ≤ (s[k].toNat : Int)) = true := by simp; omega
        have d1 : decide ((s[k].toNat : Int) ≤ 57) = false := by simp; omega
        have d2 : decide (97 ≤ (s[k].toNat : Int)) = true := by simp; omega
        have d3 : decide ((s[k].toNat : Int) ≤ 122) = true := by simp; omega
        go_wp2
        go_round
        case rel => exact ⟨k + 1, by omega, by go_num, e1.out⟩
        case measure => simp [intOf]; omega
      · have e1 := Lib.hid (hno.out (by rw [hC.out]; simp; omega))
        clear hno hyes hC hs1
        have d0 : decide (48 ≤ (s[k].toNat : Int)) = true := by simp; omega
        have d1 : decide ((s[k].toNat : Int) ≤ 57) = false := by simp; omega
        have d2 : decide (97 ≤ (s[k].toNat : Int)) = true := by simp; omega
        have d3 : decide ((s[k].toNat : Int) ≤ 122) = false := by simp; omega
        go_wp2
        go_ret
        exact ⟨ret_bool e1.out, rfl⟩
    · have hkn : k = s.size := by omega
      have hA : Hid (s.data.toList.all tagC = true) := Lib.hid (by have := HP.out; rwa [List.take_of_length_le (by simp; omega)] at this)
      by_cases h16 : s.size ≤ 16
      · have e1 : Hid (tagB s = true) := Lib.hid (by unfold tagB; rw [hA.out, decide_eq_true h16]; rfl)
        have h16d : decide ((s.size : Int) ≤ 16) = true := by simp; omega
        clear hkn
        go_wp2
        go_ret
        exact ⟨ret_bool e1.out, rfl⟩
      · have e1 : Hid (tagB s = false) := Lib.hid (by unfold tagB; rw [decide_eq_false h16, Bool.and_false])
        have h16d : decide ((s.size : Int) ≤ 16) = false := by simp; omega
        clear hkn
        go_wp2
        go_ret
        exact ⟨ret_bool e1.out, rfl⟩
theorem refTag_b {s : ByteArray} {w : World} {b : Bool} (hs : s.size ≤ maxLen) (h : tagB s = b) : Calls Try.prog 45 #[.string s] w fun e w' => e = .returned (.bool b) ∧ w = w' := by
  subst h; exact refTag_any s w hs



end Go.Proofs.Ytlpogkcfjbabaaa
