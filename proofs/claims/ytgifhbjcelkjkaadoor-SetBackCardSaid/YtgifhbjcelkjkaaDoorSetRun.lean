/- What set.runSize and the reference's num answer: how many numbers stand side by side; a number's decimal digits. -/
import Derived.Test.YtgifhbjcelkjkaaDoorSetReads
import Derived.Test.YtgifhbjcelkjkaaDoorSetScan
namespace Go.Proofs.YtgifhbjcelkjkaaDoor
open Go.RowKit

set_option maxHeartbeats 1000000 in
theorem runSize_any (A : Option Addr) (n c : Nat) (xs : List Int) (w : World) (B : Nat) (hr : RI w B A n xs) (hn : n ≤ 256) (h0 : 0 < n) (hset : rightB xs = true) :
    Calls Tryd.prog 36 #[.slice A n c] w fun e w' => e = .returned (.int .i64 (runLen xs : Nat)) ∧ ∃ k, w' = w.drewN k := by
  have HLEN := Lib.hid hr.1
  have HS := Lib.hid hset
  clear hset
  go_enter Tryd.func36, Tryd.ntmps36
  go_wp2
  go_loopw [3] (fun i wr => ∃ k : Nat, 0 < k ∧ k ≤ n ∧ i = .int .i64 k ∧ (∀ j, 0 < j → j < k → xs.getD j 0 = xs.getD (j - 1) 0 + 1) ∧ ∃ q, wr = w.drewN q) (fun i _ => n - (intOf i).toNat)
  case atStart => exact ⟨1, by omega, by omega, rfl, fun j h1 h2 => absurd h2 (by omega), 0, rfl⟩
  case round =>
    obtain ⟨k, hk0, hk, rfl, hpre, q, rfl⟩ := hrel
    have HP := Lib.hid hpre
    clear hpre
    by_cases hlt : k < n
    · have hd : decide ((k : Int) < (n : Int)) = true := by simp; omega
      obtain ⟨b, off, rfl, hb, hc⟩ := hr.2 (by omega)
      have hck := hc k hlt
      have hcp := hc (k - 1) (by omega)
      have hy := right_mem HS.out (xs.getD (k - 1) 0) (by have := HLEN.out; simp [List.getD, show k - 1 < xs.length by omega])
      clear hc hr
      by_cases he : xs.getD k 0 = xs.getD (k - 1) 0 + 1
      · have HN : Hid (∀ j, 0 < j → j < k + 1 → xs.getD j 0 = xs.getD (j - 1) 0 + 1) := Lib.hid (by
          intro j h1 h2
          rcases Nat.lt_or_ge j k with h | h
          · exact HP.out j h1 h
          · obtain rfl : j = k := by omega
            exact he)
        rw [he] at hck
        generalize xs.getD (k - 1) 0 = y at *
        clear he
        go_wp2
        go_quiet (fail)
        go_wp2
        go_roundw
        case rel => exact ⟨k + 1, by omega, by omega, by go_num, HN.out, _, rfl⟩
        case measure => simp [intOf]; omega
      · have HE : Hid (runLen xs = k) := Lib.hid (runLen_is xs k hk0 (by have := HLEN.out; omega) HP.out (.inr he))
        have h1 : (xs.getD k 0 == xs.getD (k - 1) 0 + 1) = false := by rw [← Bool.not_eq_true, beq_iff_eq]; exact he
        clear he
        generalize xs.getD (k - 1) 0 = y at *
        generalize xs.getD k 0 = x at *
        go_wp2
        go_quiet (fail)
        go_wp2
        go_ret
        exact ⟨by rw [HE.out]; rfl, _, World.drewN_drewN _ _ _⟩
    · have hd : decide ((k : Int) < (n : Int)) = false := by simp; omega
      have HE : Hid (runLen xs = k) := Lib.hid (runLen_is xs k hk0 (by have := HLEN.out; omega) HP.out (.inl (by have := HLEN.out; omega)))
      clear hr
      go_wp2
      go_quiet (fail)
      go_wp2
      go_ret
      exact ⟨by rw [HE.out]; rfl, _, World.drewN_drewN _ _ _⟩

/-- a number's digits as a string -/
def DecS (v : Nat) : ByteArray := ⟨(Lib.decDigits v).toArray⟩
theorem enc_digit : ∀ v : Fin 10, Utf8.encode (48 + (v.val : Int)) = ⟨#[UInt8.ofNat (48 + v.val)]⟩ := by decide
theorem ret_string {a b : ByteArray} (h : a = b) : Ending.returned (.string a) = .returned (.string b) := by rw [h]
theorem enc_dec {v : Nat} (hv : v < 10) : Utf8.encode (48 + (v : Int)) = DecS v := by
  unfold DecS
  rw [Lib.decDigits_one hv]
  exact enc_digit ⟨v, hv⟩

set_option maxHeartbeats 1000000 in
theorem num1 (v : Nat) (hv : v < 10) (w : World) :
    Calls Tryd.prog 38 #[.int .i64 v] w fun e w' => e = .returned (.string (DecS v)) ∧ w = w' := by
  go_enter Tryd.func38, Tryd.ntmps38
  go_wp2_with fail
  go_ret
  refine ⟨?_, rfl⟩
  show Ending.returned (Value.string (Utf8.encode (48 + (v : Int)))) = _
  rw [enc_dec hv]

theorem dec_step {v : Nat} (hv : ¬ v < 10) : DecS (v / 10) ++ Utf8.encode (48 + ((v % 10 : Nat) : Int)) = DecS v := by
  have h10 : v % 10 < 10 := by omega
  rw [enc_dec h10]
  unfold DecS
  conv => rhs; rw [Lib.decDigits, dif_neg hv]
  rw [Lib.decDigits_one h10]
  apply ByteArray.ext
  simp

theorem DecS_size {v : Nat} (hv : v < 26) : (DecS v).size ≤ 3 := by
  have := dec_length (show v < 256 by omega)
  exact this
set_option maxHeartbeats 1000000 in
theorem num2a (v : Nat) (hv : ¬ v < 10) (hv2 : v < 100) (w : World) :
    Calls Tryd.prog 38 #[.int .i64 v] w fun e w' => e = .returned (.string (DecS v)) ∧ w = w' := by
  have hQ : (v : Int) / 10 = ((v / 10 : Nat) : Int) := by omega
  have hM : (v : Int) % 10 = ((v % 10 : Nat) : Int) := by omega
  have h10 : v % 10 < 10 := by omega
  have h26 : v / 10 < 10 := by omega
  have HV := Lib.hid hv
  generalize hq : v / 10 = q at *
  generalize hr : v % 10 = r at *
  have HQQ := Lib.hid hq
  have HRR := Lib.hid hr
  clear hq hr
  go_enter Tryd.func38, Tryd.ntmps38
  go_wp2_with fail
  refine (num1 q h26 _).mono ?_
  rintro e w1 ⟨rfl, rfl⟩
  have hs1 := DecS_size (show q < 26 by omega)
  have hs2 : (Utf8.encode (48 + (r : Int))).size ≤ 3 := by rw [enc_dec h10]; exact DecS_size (by omega)
  go_wp2_with fail
  go_ret
  refine ⟨?_, rfl⟩
  show Ending.returned (Value.string (DecS q ++ Utf8.encode (48 + (r : Int)))) = _
  rw [← HQQ.out, ← HRR.out, dec_step HV.out]
theorem num2 (v : Nat) (hv : v < 100) (w : World) :
    Calls Tryd.prog 38 #[.int .i64 v] w fun e w' => e = .returned (.string (DecS v)) ∧ w = w' := by
  by_cases h : v < 10
  · exact num1 v h w
  · exact num2a v h hv w
set_option maxHeartbeats 1000000 in
theorem num3a (v : Nat) (hv : ¬ v < 10) (hv2 : v < 256) (w : World) :
    Calls Tryd.prog 38 #[.int .i64 v] w fun e w' => e = .returned (.string (DecS v)) ∧ w = w' := by
  have hQ : (v : Int) / 10 = ((v / 10 : Nat) : Int) := by omega
  have hM : (v : Int) % 10 = ((v % 10 : Nat) : Int) := by omega
  have h10 : v % 10 < 10 := by omega
  have h26 : v / 10 < 100 := by omega
  have HV := Lib.hid hv
  generalize hq : v / 10 = q at *
  generalize hr : v % 10 = r at *
  have HQQ := Lib.hid hq
  have HRR := Lib.hid hr
  clear hq hr
  go_enter Tryd.func38, Tryd.ntmps38
  go_wp2_with fail
  refine (num2 q h26 _).mono ?_
  rintro e w1 ⟨rfl, rfl⟩
  have hs1 := DecS_size (show q < 26 by omega)
  have hs2 : (Utf8.encode (48 + (r : Int))).size ≤ 3 := by rw [enc_dec h10]; exact DecS_size (by omega)
  go_wp2_with fail
  go_ret
  refine ⟨?_, rfl⟩
  show Ending.returned (Value.string (DecS q ++ Utf8.encode (48 + (r : Int)))) = _
  rw [← HQQ.out, ← HRR.out, dec_step HV.out]
theorem num_any (v : Nat) (hv : v < 256) (w : World) :
    Calls Tryd.prog 38 #[.int .i64 v] w fun e w' => e = .returned (.string (DecS v)) ∧ w = w' := by
  by_cases h : v < 10
  · exact num1 v h w
  · exact num3a v h hv w

end Go.Proofs.YtgifhbjcelkjkaaDoor
