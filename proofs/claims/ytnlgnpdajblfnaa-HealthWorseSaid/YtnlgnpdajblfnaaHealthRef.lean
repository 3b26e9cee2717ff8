/- The reference's functions of layer 6 (bailiwickref06): Right, Set, worst, Worst, Below: what they answer of any list of things and numbers. -/
import Derived.Test.YtnlgnpdajblfnaaHealthMath
import Derived.Test.YtnlgnpdajblfnaaGraphLists
namespace Go.Proofs.Ytnlgnpdajblfnaa
open Go.RowKit

set_option maxRecDepth 100000 in
set_option maxHeartbeats 2000000 in
theorem refRightH_any (A : Option Addr) (n c : Nat) (A2 : Option Addr) (n2 c2 : Nat) (g : Gr) (h : List Int) (w : World) (hr : RG w w.heap.size A n g) (hn : n ≤ maxLen) (hr2 : RI w w.heap.size A2 n2 h) (hn2 : n2 ≤ maxLen) :
    Calls Try.prog 13 #[.slice A n c, .slice A2 n2 c2] w fun e w' => e = .returned (.bool (rightH g h)) ∧ Below w.heap.size w w' := by
  have HN := Lib.hid hn
  unfold maxLen at hn hn2
  have HR := Lib.hid hr
  have HI := Lib.hid hr2
  clear hr hr2
  go_enter Try.func13, Try.ntmps13
  go_wp2
  go_loop [5] (fun i => ∃ k : Nat, k ≤ n2 ∧ i = .int .i64 k ∧ ∀ j, j < k → 0 ≤ h.getD j 0 ∧ h.getD j 0 ≤ 2) (fun i => n2 - (intOf i).toNat)
  case atStart => exact ⟨0, Nat.zero_le _, rfl, fun j hj => absurd hj (by omega)⟩
  case round =>
    obtain ⟨k, hk, rfl, hpre⟩ := hrel
    have HP := Lib.hid hpre
    clear hpre
    by_cases hlt : k < n2
    · obtain ⟨b, off, rfl, _, hc⟩ := HI.out.one hlt
      obtain ⟨x, hx⟩ : ∃ x, h.getD k 0 = x := ⟨_, rfl⟩
      rw [hx] at hc
      have HX := Lib.hid hx
      clear hx
      by_cases hgood : 0 ≤ x ∧ x ≤ 2
      · have e1 : Hid (∀ j, j < k + 1 → 0 ≤ h.getD j 0 ∧ h.getD j 0 ≤ 2) := Lib.hid (by
          intro j hj
          rcases Nat.lt_or_ge j k with h' | h'
          · exact HP.out j h'
          · obtain rfl : j = k := by omega
            rw [HX.out]; exact hgood)
        rcases (show x = 0 ∨ x = 1 ∨ x = 2 by omega) with rfl | rfl | rfl
        all_goals
          clear hgood
          go_wp2
          go_round
          case rel => exact ⟨k + 1, by omega, by go_num, e1.out⟩
          case measure => simp [intOf]; omega
      · have e1 : Hid (rightH g h = false) := Lib.hid (by unfold rightH; rw [rightHB_no (by rw [HI.out.1]; exact hlt) (by rw [HX.out]; exact hgood)]; rfl)
        have f0 : (x != 0) = true := by simp; intro e; exact hgood (by omega)
        have f1 : (x != 1) = true := by simp; intro e; exact hgood (by omega)
        have f2 : (x != 2) = true := by simp; intro e; exact hgood (by omega)
        clear hgood
        go_wp2
        go_ret
        exact ⟨ret_bool e1.out, Below.refl _ _⟩
    · have hkn : k = n2 := by omega
      have e2 : Hid (rightHB h = true) := Lib.hid (rightHB_yes (fun j hj => HP.out j (by rw [HI.out.1] at hj; omega)))
      clear HP
      cases hg : rightG g with
      | false =>
        have e1 : Hid (rightH g h = false) := Lib.hid (by unfold rightH; rw [hg, Bool.false_and, Bool.and_false])
        have HG := Lib.hid hg
        clear hg
        go_wp2_with fail
        refine (refRightG_b HR.out HN.out HG.out).mono ?_
        rintro e w1 ⟨rfl, hb⟩
        have HB := Lib.hid hb
        clear hb
        go_wp2
        go_ret
        exact ⟨ret_bool e1.out, HB.out⟩
      | true =>
        have HG := Lib.hid hg
        by_cases hnn : n = n2
        · have e1 : Hid (rightH g h = true) := Lib.hid (by unfold rightH; rw [hg, e2.out, HR.out.len, HI.out.1, decide_eq_true hnn]; rfl)
          clear hg
          subst hnn
          go_wp2_with fail
          refine (refRightG_b HR.out HN.out HG.out).mono ?_
          rintro e w1 ⟨rfl, hb⟩
          have HB := Lib.hid hb
          clear hb
          go_wp2
          go_ret
          exact ⟨ret_bool e1.out, HB.out⟩
        · have e1 : Hid (rightH g h = false) := Lib.hid (by unfold rightH; rw [hg, HR.out.len, HI.out.1, decide_eq_false hnn, Bool.true_and, Bool.and_false])
          have hne : ((n : Int) == (n2 : Int)) = false := by simp; omega
          clear hg
          go_wp2_with fail
          refine (refRightG_b HR.out HN.out HG.out).mono ?_
          rintro e w1 ⟨rfl, hb⟩
          have HB := Lib.hid hb
          clear hb
          go_wp2
          go_ret
          exact ⟨ret_bool e1.out, HB.out⟩
theorem refRightH_b {A : Option Addr} {n c : Nat} {A2 : Option Addr} {n2 c2 : Nat} {g : Gr} {h : List Int} {w : World} {b : Bool} (hr : RG w w.heap.size A n g) (hn : n ≤ maxLen) (hr2 : RI w w.heap.size A2 n2 h) (hn2 : n2 ≤ maxLen) (e : rightH g h = b) :
    Calls Try.prog 13 #[.slice A n c, .slice A2 n2 c2] w fun e w' => e = .returned (.bool b) ∧ Below w.heap.size w w' := by
  subst e; exact refRightH_any A n c A2 n2 c2 g h w hr hn hr2 hn2

set_option maxRecDepth 100000 in
set_option maxHeartbeats 2000000 in
theorem refworst_any (A : Option Addr) (n c : Nat) (A2 : Option Addr) (n2 c2 : Nat) (g : Gr) (h : List Int) (k : Nat) (w : World) (B : Nat) (hr : RG w B A n g) (hr2 : RI w B A2 n2 h) (hok : rightH g h = true) (hk : k < n) :
    Calls Try.prog 27 #[.slice A n c, .slice A2 n2 c2, .int .i64 k] w fun e w' => e = .returned (.int .i64 (worstG g h k)) ∧ w = w' := by
  have HR := Lib.hid hr
  have HI := Lib.hid hr2
  have HOK := Lib.hid hok
  have HG := Lib.hid (rightG_is (rightH_is hok).1)
  have hnn : n2 = n := by rw [← hr2.1, ← hr.len]; exact (rightH_is hok).2.1
  have hn256 : n ≤ 256 := by have := (rightG_is (rightH_is hok).1).few; have := hr.len; omega
  subst hnn
  obtain ⟨r, hr0⟩ : ∃ r, worstG g h k = r := ⟨_, rfl⟩
  have hr0n : 0 ≤ r := by
    rw [← hr0]
    have hb := hAt_bounds hok (k := 0) (by have := HG.out.pos; omega)
    have := (worst_iff HG.out (h := h) (m := worstG g h k) k (by rw [HR.out.len]; exact hk)).1 (Int.le_refl _) 0 (over_zero HG.out k (by rw [HR.out.len]; exact hk))
    omega
  have HRES := Lib.hid hr0
  rw [hr0]
  clear hr hr2 hok hr0
  go_enter Try.func27, Try.ntmps27
  go_wp2
  go_loop [2, 7] (fun i bv => ∃ b : Int, bv = .int .i64 b ∧ ((i = .int .i64 (-1) ∧ b = r) ∨ ∃ j : Nat, j ≤ k ∧ i = .int .i64 j ∧ max b (worstG g h j) = r)) (fun i _ => (intOf i + 1).toNat)
  case atStart => exact ⟨0, rfl, .inr ⟨k, Nat.le_refl _, rfl, by rw [HRES.out]; omega⟩⟩
  case round =>
    obtain ⟨b, rfl, ⟨rfl, hbr⟩ | ⟨j, hj, rfl, hbr⟩⟩ := hrel
    · subst hbr
      go_wp2
      go_ret
      exact ⟨rfl, rfl⟩
    · have hjn : j < n2 := by omega
      obtain ⟨b0, off, rfl, _, _, hc1, _, _⟩ := HR.out.one hjn
      obtain ⟨b2, off2, rfl, _, hc2⟩ := HI.out.one hjn
      have hjz : 0 ≤ (j : Int) := by omega
      have hup : Hid ((j = 0 ∧ gu g j = -1 ∧ worstG g h j = hAt h j) ∨ (0 < j ∧ ∃ p : Nat, p < j ∧ gu g j = p ∧ worstG g h j = max (hAt h j) (worstG g h p))) := Lib.hid (by
        rcases Nat.eq_zero_or_pos j with h0 | h0
        · subst h0; exact .inl ⟨rfl, HG.out.top.2, rfl⟩
        · have := HG.out.up j h0 (by rw [HR.out.len]; exact hjn)
          exact .inr ⟨h0, par g j, this.2, by unfold par; omega, worst_up HG.out (by rw [HR.out.len]; exact hjn) h0⟩)
      have hx0 : h.getD j 0 = hAt h j := rfl
      rw [hx0] at hc2
      clear hx0
      generalize gu g j = u at *
      generalize hAt h j = x at *
      have HBR := Lib.hid hbr
      clear hbr
      by_cases hxb : b < x
      · rcases hup.out with ⟨-, rfl, hw⟩ | ⟨-, p, hpj, rfl, hw⟩
        · have e1 : x = r := by rw [← HBR.out, hw]; omega
          subst e1
          clear hup HBR hw
          go_wp2
          go_round
          case rel => exact ⟨_, rfl, .inl ⟨rfl, rfl⟩⟩
          case measure => simp [intOf]
        · have e1 : Hid (max x (worstG g h p) = r) := Lib.hid (by rw [← HBR.out, hw]; omega)
          clear hup HBR hw
          go_wp2
          go_round
          case rel => exact ⟨_, rfl, .inr ⟨p, by omega, rfl, e1.out⟩⟩
          case measure => simp [intOf]; omega
      · have hxd : decide (b < x) = false := by simpa using hxb
        rcases hup.out with ⟨-, rfl, hw⟩ | ⟨-, p, hpj, rfl, hw⟩
        · have e1 : b = r := by rw [← HBR.out, hw]; omega
          subst e1
          clear hup HBR hw
          go_wp2
          go_round
          case rel => exact ⟨_, rfl, .inl ⟨rfl, rfl⟩⟩
          case measure => simp [intOf]
        · have e1 : Hid (max b (worstG g h p) = r) := Lib.hid (by rw [← HBR.out, hw]; omega)
          clear hup HBR hw
          go_wp2
          go_round
          case rel => exact ⟨_, rfl, .inr ⟨p, by omega, rfl, e1.out⟩⟩
          case measure => simp [intOf]; omega
theorem refworst_b {A : Option Addr} {n c : Nat} {A2 : Option Addr} {n2 c2 : Nat} {g : Gr} {h : List Int} {k : Nat} {w : World} {B : Nat} {x : Int} (hr : RG w B A n g) (hr2 : RI w B A2 n2 h) (hok : rightH g h = true) (hk : k < n) (e : worstG g h k = x) :
    Calls Try.prog 27 #[.slice A n c, .slice A2 n2 c2, .int .i64 k] w fun e w' => e = .returned (.int .i64 x) ∧ w = w' := by
  subst e; exact refworst_any A n c A2 n2 c2 g h k w B hr hr2 hok hk

end Go.Proofs.Ytnlgnpdajblfnaa
