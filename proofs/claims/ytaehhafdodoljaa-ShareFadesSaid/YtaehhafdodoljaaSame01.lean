/- The reference's Same of two lists of numbers (bailiwickref01). -/
import Derived.Test.YtaehhafdodoljaaSetMem
import Derived.LoopTactic
import Derived.Deep.QuietTactic
import Derived.BigQuiet
namespace Go.Proofs.Ytaehhafdodoljaa
open Go.RowKit

def sameB (xs ys : List Int) : Bool := xs == ys
theorem sameB_iff {xs ys : List Int} : sameB xs ys = true ↔ xs = ys := by unfold sameB; exact beq_iff_eq
set_option maxHeartbeats 400000 in
theorem same_any (A A' : Option Addr) (n c n' c' : Nat) (xs ys : List Int) (w : World) (B B' : Nat) (hr : RI w B A n xs) (hr' : RI w B' A' n' ys) (hn : n ≤ maxLen) (hn' : n' ≤ maxLen) :
    Calls Try.prog 18 #[.slice A n c, .slice A' n' c'] w fun e w' => e = .returned (.bool (sameB xs ys)) ∧ ∃ k, w' = w.drewN k := by
  unfold maxLen at hn hn'
  have HLEN := Lib.hid hr.1
  have HLEN' := Lib.hid hr'.1
  by_cases hnn : n = n'
  · subst hnn
    go_enter Try.func18, Try.ntmps18
    go_wp2
    go_loopw [5] (fun i wr => ∃ k : Nat, k ≤ n ∧ i = .int .i64 k ∧ (∀ i, i < k → xs.getD i 0 = ys.getD i 0) ∧ ∃ q, wr = w.drewN q) (fun i _ => n - (intOf i).toNat)
    case atStart => exact ⟨0, Nat.zero_le _, rfl, fun i hi => absurd hi (by omega), 0, rfl⟩
    case round =>
      obtain ⟨k, hk, rfl, hpre, q, rfl⟩ := hrel
      have HP := Lib.hid hpre
      clear hpre
      by_cases hlt : k < n
      · obtain ⟨b, off, rfl, hb, hc⟩ := hr.2 (by omega)
        obtain ⟨b', off', rfl, hb', hc'⟩ := hr'.2 (by omega)
        have hck := hc k hlt
        have hck' := hc' k hlt
        clear hc hr hc' hr'
        by_cases hx : xs.getD k 0 = ys.getD k 0
        · have HX := Lib.hid hx
          have h1 : (xs.getD k 0 == ys.getD k 0) = true := by simpa using hx
          have h2 : (xs.getD k 0 != ys.getD k 0) = false := by simpa using hx
          clear hx
          generalize hx : xs.getD k 0 = x at *
          generalize hy : ys.getD k 0 = y at *
          have HXX := Lib.hid hx
          have HYY := Lib.hid hy
          clear hx hy
          go_wp2
          go_quiet (fail)
          go_wp2
          go_roundw
          case rel =>
            refine ⟨k + 1, by omega, by go_num, ?_, _, rfl⟩
            intro i hi
            rcases Nat.lt_or_ge i k with h | h
            · exact HP.out i h
            · obtain rfl : i = k := by omega
              rw [HXX.out, HYY.out]; exact HX.out
          case measure => simp [intOf]; omega
        · have hne : Hid (sameB xs ys = false) := Lib.hid (by
            rw [← Bool.not_eq_true, sameB_iff]
            rintro rfl; exact hx rfl)
          have h1 : (xs.getD k 0 == ys.getD k 0) = false := by simpa using hx
          have h2 : (xs.getD k 0 != ys.getD k 0) = true := by simpa using hx
          clear hx
          generalize xs.getD k 0 = x at *
          generalize ys.getD k 0 = y at *
          go_wp2
          go_quiet (fail)
          go_wp2
          go_ret
          exact ⟨ret_bool hne.out, _, World.drewN_drewN _ _ _⟩
      · have hall : Hid (sameB xs ys = true) := Lib.hid (by
          rw [sameB_iff]
          have h1 := HLEN.out; have h2 := HLEN'.out
          refine List.ext_getElem (by omega) fun i hi hi' => ?_
          have := HP.out i (by omega)
          rwa [show xs.getD i 0 = xs[i] by simp [List.getD, hi], show ys.getD i 0 = ys[i] by simp [List.getD, hi']] at this)
        clear hr hr'
        go_wp2
        go_ret
        exact ⟨ret_bool hall.out, _, rfl⟩
  · have hne : Hid (sameB xs ys = false) := Lib.hid (by
      rw [← Bool.not_eq_true, sameB_iff]
      rintro rfl
      have h1 := HLEN.out; have h2 := HLEN'.out; omega)
    clear hr hr'
    go_enter Try.func18, Try.ntmps18
    go_wp2
    go_ret
    exact ⟨ret_bool hne.out, 0, rfl⟩

/-- of two that are the same -/
theorem r_same1 {A A' : Option Addr} {n c n' c' : Nat} {xs ys : List Int} {w : World} (hr : RI w w.heap.size A n xs) (hr' : RI w w.heap.size A' n' ys) (hn : n ≤ maxLen) (h : xs = ys) :
    Calls Try.prog 18 #[.slice A n c, .slice A' n' c'] w fun e w' => e = .returned (.bool true) ∧ Below w.heap.size w w' := by
  subst h
  exact (same_any A A' n c n' c' xs xs w _ _ hr hr' hn (by rw [← hr'.1, hr.1]; exact hn)).mono fun _ _ ⟨h1, k, h2⟩ => ⟨by rw [h1, sameB_iff.2 rfl], by rw [h2]; exact bel_drew w k⟩

end Go.Proofs.Ytaehhafdodoljaa
