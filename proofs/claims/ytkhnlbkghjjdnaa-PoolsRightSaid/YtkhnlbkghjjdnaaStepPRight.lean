/- The program's Right of layer 3 (step): what it answers of any list of steps. -/
import Derived.Test.YtkhnlbkghjjdnaaStepPA
namespace Go.Proofs.Ytkhnlbkghjjdnaa
open Go.RowKit

theorem bel_alloc {w wr : World} (h : Below w.heap.size w wr) (o : Obj) : Below w.heap.size w (wr.alloc o) := h.alloc h.size o
theorem bel_allocd {w wr : World} (h : Below w.heap.size w wr) (o : Obj) (q : Nat) : Below w.heap.size w ((wr.alloc o).drewN q) := (bel_alloc h o).trans ((bel_drew _ q).mono (bel_alloc h o).size)

set_option maxRecDepth 100000 in
set_option maxHeartbeats 4000000 in
theorem stepRight_any (A : Option Addr) (n c : Nat) (p : List (Int × Int)) (w : World) (hr : RS w w.heap.size A n p) (hn : n ≤ 2000) :
    Calls Try.prog 27 #[.slice A n c] w fun e w' => e = .returned (.bool (rightP p)) ∧ Below w.heap.size w w' := by
  have HR := Lib.hid hr
  clear hr
  by_cases h0 : n = 0
  · have hP : Hid (rightP p = false) := Lib.hid (by unfold rightP; rw [decide_eq_false_iff_not]; exact fun h => h.1 (List.eq_nil_of_length_eq_zero (by rw [HR.out.1]; exact h0)))
    rw [hP.out]
    subst h0
    go_enter Try.func27, Try.ntmps27
    go_wp2
    go_ret
    exact ⟨rfl, Below.refl _ _⟩
  by_cases h1024 : 1024 < n
  · have hP : Hid (rightP p = false) := Lib.hid (by unfold rightP; rw [decide_eq_false_iff_not]; exact fun h => by have := h.2.1; rw [HR.out.1] at this; omega)
    rw [hP.out]
    have hd1 : ((n : Int) == 0) = false := by simp; omega
    go_enter Try.func27, Try.ntmps27
    go_wp2
    go_ret
    exact ⟨rfl, Below.refl _ _⟩
  have hc0 := (HR.out.2 (by omega))
  obtain ⟨b, off, rfl, hbw, hcells⟩ := hc0
  have HC := Lib.hid hcells
  clear hcells
  have hd1 : ((n : Int) == 0) = false := by simp; omega
  have hd2 : decide ((1024 : Int) < (n : Int)) = false := by simp; omega
  have hz0 := (HC.out 0 (by omega)).1
  simp only [Nat.zero_mul, Nat.add_zero] at hz0
  by_cases hz : (p.getD 0 (0, 0)).1 = 0
  · rw [hz] at hz0
    go_enter Try.func27, Try.ntmps27
    go_wp2
    clear hz0 hd1 hd2
    go_loopw [22] (fun i wr => ∃ k : Nat, k ≤ n ∧ i = .int .i64 k ∧ (∀ i, i < k → stepOk p i) ∧ Below w.heap.size w wr) (fun i _ => n - (intOf i).toNat)
    case atStart => exact ⟨0, Nat.zero_le _, rfl, (fun i hi => absurd hi (by omega)), Below.refl _ _⟩
    case round =>
      obtain ⟨k, hk, rfl, hpre, hB⟩ := hrel
      have HP := Lib.hid hpre
      clear hpre
      have hbr : b < wr.heap.size := by have := hB.size; omega
      by_cases hlt : k < n
      · have hck1 := (hB.cell (p := ⟨b, off + k * 2, none⟩) hbw).trans (HC.out k hlt).1
        have hck2 := (hB.cell (p := ⟨b, off + k * 2 + 1, none⟩) hbw).trans (HC.out k hlt).2
        have hcp1 := (hB.cell (p := ⟨b, off + (k - 1) * 2, none⟩) hbw).trans (HC.out (k - 1) (by omega)).1
        have hcp2 := (hB.cell (p := ⟨b, off + (k - 1) * 2 + 1, none⟩) hbw).trans (HC.out (k - 1) (by omega)).2
        have HB := Lib.hid hB
        clear hB
        have hok : Hid (stepOk p k ↔ (0 ≤ (p.getD k (0, 0)).2 ∧ (p.getD k (0, 0)).2 ≤ 1048576 ∧ 0 ≤ (p.getD k (0, 0)).1 ∧ (p.getD k (0, 0)).1 ≤ 4611686018427387904 ∧ (0 < k → (p.getD (k - 1) (0, 0)).1 < (p.getD k (0, 0)).1 ∧ (p.getD k (0, 0)).2 ≠ (p.getD (k - 1) (0, 0)).2))) := Lib.hid Iff.rfl
        have hbad : Hid (¬ stepOk p k → rightP p = false) := Lib.hid (rightP_no (by rw [HR.out.1]; exact hlt))
        have hnext : Hid (stepOk p k → ∀ i, i < k + 1 → stepOk p i) := Lib.hid (by
          intro h i hi
          rcases Nat.lt_or_ge i k with h' | h'
          · exact HP.out i h'
          · obtain rfl : i = k := by omega
            exact h)
        generalize (p.getD k (0, 0)).1 = x at *
        generalize (p.getD k (0, 0)).2 = y at *
        generalize (p.getD (k - 1) (0, 0)).1 = x' at *
        generalize (p.getD (k - 1) (0, 0)).2 = y' at *
        have ht : Hid (timeB x = true ↔ 0 ≤ x ∧ x ≤ 4611686018427387904) := Lib.hid (by unfold timeB; rw [decide_eq_true_eq])
        have ha : Hid (amtB y = true ↔ 0 ≤ y ∧ y ≤ 1048576) := Lib.hid (by unfold amtB; rw [decide_eq_true_eq])
        cases htb : timeB x with
        | false =>
          have HT := Lib.hid htb
          have e1 : Hid (rightP p = false) := Lib.hid (hbad.out (fun h => by have := hok.out.1 h; have := ht.out.2 ⟨by omega, by omega⟩; rw [htb] at this; cases this))
          clear hok hbad hnext htb
          go_wp2_with fail
          refine (whenRight_b x _ _ HT.out).mono ?_
          rintro e w1 ⟨rfl, rfl⟩
          go_wp2
          go_ret
          exact ⟨ret_bool e1.out, by first | exact bel_alloc HB.out _ | exact bel_allocd HB.out _ _⟩
        | true =>
          have HT := Lib.hid htb
          have hx := ht.out.1 htb
          clear htb ht
          cases hm : amtB y with
          | false =>
            have HM := Lib.hid hm
            have e1 : Hid (rightP p = false) := Lib.hid (hbad.out (fun h => by have := hok.out.1 h; have := ha.out.2 ⟨by omega, by omega⟩; rw [hm] at this; cases this))
            clear hok hbad hnext hm
            go_wp2_with fail
            refine (whenRight_b x _ _ HT.out).mono ?_
            rintro e w1 ⟨rfl, rfl⟩
            go_wp2_with fail
            refine (amount_b HM.out).mono ?_
            rintro e w1 ⟨rfl, rfl⟩
            go_wp2
            go_ret
            exact ⟨ret_bool e1.out, by first | exact bel_alloc HB.out _ | exact bel_allocd HB.out _ _⟩
          | true =>
            have HM := Lib.hid hm
            have hy := ha.out.1 hm
            clear hm ha
            by_cases h5 : 0 < k
            · by_cases h6 : x ≤ x'
              · have e1 : Hid (rightP p = false) := Lib.hid (hbad.out (fun h => by have := hok.out.1 h; omega))
                clear hok hbad hnext
                go_wp2_with fail
                refine (whenRight_b x _ _ HT.out).mono ?_
                rintro e w1 ⟨rfl, rfl⟩
                go_wp2_with fail
                refine (amount_b HM.out).mono ?_
                rintro e w1 ⟨rfl, rfl⟩
                go_wp2
                go_quiet (fail)
                go_wp2
                go_ret
                exact ⟨ret_bool e1.out, by first | exact bel_alloc HB.out _ | exact bel_allocd HB.out _ _⟩
              · have d6 : decide (x ≤ x') = false := by simpa using h6
                by_cases h7 : y = y'
                · have e1 : Hid (rightP p = false) := Lib.hid (hbad.out (fun h => by have := hok.out.1 h; omega))
                  clear hok hbad hnext
                  subst h7
                  go_wp2_with fail
                  refine (whenRight_b x _ _ HT.out).mono ?_
                  rintro e w1 ⟨rfl, rfl⟩
                  go_wp2_with fail
                  refine (amount_b HM.out).mono ?_
                  rintro e w1 ⟨rfl, rfl⟩
                  go_wp2
                  go_quiet (fail)
                  go_wp2
                  go_ret
                  exact ⟨ret_bool e1.out, by first | exact bel_alloc HB.out _ | exact bel_allocd HB.out _ _⟩
                · have d7 : (y == y') = false := by simpa using h7
                  have e1 := Lib.hid (hnext.out (hok.out.2 ⟨by omega, by omega, by omega, by omega, fun _ => ⟨by omega, h7⟩⟩))
                  clear hok hbad hnext
                  go_wp2_with fail
                  refine (whenRight_b x _ _ HT.out).mono ?_
                  rintro e w1 ⟨rfl, rfl⟩
                  go_wp2_with fail
                  refine (amount_b HM.out).mono ?_
                  rintro e w1 ⟨rfl, rfl⟩
                  go_wp2
                  go_quiet (fail)
                  go_wp2
                  go_roundw
                  case rel => exact ⟨k + 1, by omega, by go_num, e1.out, by first | exact bel_alloc HB.out _ | exact bel_allocd HB.out _ _⟩
                  case measure => simp [intOf]; omega
            · have e1 := Lib.hid (hnext.out (hok.out.2 ⟨by omega, by omega, by omega, by omega, fun h => absurd h h5⟩))
              clear hok hbad hnext
              have hd5 : decide (0 < k) = false := by simpa using h5
              go_wp2_with fail
              refine (whenRight_b x _ _ HT.out).mono ?_
              rintro e w1 ⟨rfl, rfl⟩
              go_wp2_with fail
              refine (amount_b HM.out).mono ?_
              rintro e w1 ⟨rfl, rfl⟩
              go_wp2
              go_quiet (fail)
              go_wp2
              go_roundw
              case rel => exact ⟨k + 1, by omega, by go_num, e1.out, by first | exact bel_alloc HB.out _ | exact bel_allocd HB.out _ _⟩
              case measure => simp [intOf]; omega
      · have hkn : k = n := by omega
        have e1 : Hid (rightP p = true) := Lib.hid (by
          unfold rightP
          rw [decide_eq_true_eq]
          exact ⟨by rintro rfl; exact h0 HR.out.1.symm, by have := HR.out.1; omega, hz, fun i hi => HP.out i (by have := HR.out.1; omega)⟩)
        have HB := Lib.hid hB
        have hnn : decide (k < n) = false := by simpa using hlt
        go_wp2
        go_ret
        exact ⟨ret_bool e1.out, HB.out⟩
  · have hP : Hid (rightP p = false) := Lib.hid (by unfold rightP; rw [decide_eq_false_iff_not]; exact fun h => hz h.2.2.1)
    rw [hP.out]
    have hzb : ((p.getD 0 (0, 0)).1 != 0) = true := bne_iff_ne.2 hz
    generalize (p.getD 0 (0, 0)).1 = z at *
    go_enter Try.func27, Try.ntmps27
    go_wp2
    go_ret
    exact ⟨rfl, Below.refl _ _⟩

end Go.Proofs.Ytkhnlbkghjjdnaa
