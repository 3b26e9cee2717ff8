/- What set.Part, Apart and Has, and the reference's Has and Which answer: of lists of int, what the document says of sets. -/
import Derived.Test.YtnlgnpdajblfnaaDoorSetOps
namespace Go.Proofs.YtnlgnpdajblfnaaDoor
open Go.RowKit
open Go.Shelf
attribute [local go_sem] alloc_drewN setCell_drewN

theorem four_zero {p : Int → Bool} {a0 a1 a2 a3 : Nat} (h : Four p a0 a1 a2 a3) : decide (a0 = 0 ∧ a1 = 0 ∧ a2 = 0 ∧ a3 = 0) = true ↔ ∀ n : Int, 0 ≤ n → n ≤ 255 → p n = false := by
  obtain ⟨rfl, rfl, rfl, rfl⟩ := h
  rw [decide_eq_true_eq]
  constructor
  · rintro ⟨h0, h1, h2, h3⟩ n g0 g1
    have hk : n / 64 = 0 ∨ n / 64 = 1 ∨ n / 64 = 2 ∨ n / 64 = 3 := by omega
    rcases hk with hk | hk | hk | hk
    · have := bitsTo_zero.1 h0 (n - 0).toNat (by omega)
      have e : ((64 * 0 + (n - 0).toNat : Nat) : Int) = n := by omega
      rwa [e] at this
    · have := bitsTo_zero.1 h1 (n - 64).toNat (by omega)
      have e : ((64 * 1 + (n - 64).toNat : Nat) : Int) = n := by omega
      rwa [e] at this
    · have := bitsTo_zero.1 h2 (n - 128).toNat (by omega)
      have e : ((64 * 2 + (n - 128).toNat : Nat) : Int) = n := by omega
      rwa [e] at this
    · have := bitsTo_zero.1 h3 (n - 192).toNat (by omega)
      have e : ((64 * 3 + (n - 192).toNat : Nat) : Int) = n := by omega
      rwa [e] at this
  · intro h
    exact ⟨bitsTo_zero.2 fun j hj => h _ (by omega) (by omega), bitsTo_zero.2 fun j hj => h _ (by omega) (by omega), bitsTo_zero.2 fun j hj => h _ (by omega) (by omega), bitsTo_zero.2 fun j hj => h _ (by omega) (by omega)⟩
theorem part_four {xs ys : List Int} (hx : rightB xs = true) (hy : rightB ys = true) {a0 a1 a2 a3 : Nat} (h : Four (fun n => inB xs n && !inB ys n) a0 a1 a2 a3) : decide (a0 = 0 ∧ a1 = 0 ∧ a2 = 0 ∧ a3 = 0) = partB xs ys := by
  rw [Bool.eq_iff_iff, four_zero h]
  unfold partB
  rw [hx, hy]
  simp only [Bool.and_self, Bool.true_and, List.all_eq_true]
  constructor
  · intro h n hn
    have := right_mem hx n hn
    have h2 := h n this.1 this.2
    have h3 : inB xs n = true := List.contains_iff_mem.2 hn
    rw [h3] at h2
    simpa [inB] using h2
  · intro h n _ _
    cases h3 : inB xs n with
    | false => rfl
    | true => have := h n (List.contains_iff_mem.1 h3); simpa [inB] using this
theorem apart_four {xs ys : List Int} (hx : rightB xs = true) (hy : rightB ys = true) {a0 a1 a2 a3 : Nat} (h : Four (fun n => inB xs n && inB ys n) a0 a1 a2 a3) : decide (a0 = 0 ∧ a1 = 0 ∧ a2 = 0 ∧ a3 = 0) = apartB xs ys := by
  rw [Bool.eq_iff_iff, four_zero h]
  unfold apartB
  rw [hx, hy]
  simp only [Bool.and_self, Bool.true_and, List.all_eq_true]
  constructor
  · intro h n hn
    have := right_mem hx n hn
    have h2 := h n this.1 this.2
    have h3 : inB xs n = true := List.contains_iff_mem.2 hn
    rw [h3] at h2
    simpa [inB] using h2
  · intro h n _ _
    cases h3 : inB xs n with
    | false => rfl
    | true => have := h n (List.contains_iff_mem.1 h3); simpa [inB] using this

set_option maxHeartbeats 1000000 in
theorem part_any (A A' : Option Addr) (n c n' c' : Nat) (xs ys : List Int) (w : World) (hr : RI w w.heap.size A n xs) (hr' : RI w w.heap.size A' n' ys) (hn : n ≤ maxLen) (hn' : n' ≤ maxLen) :
    Calls Tryd.prog 9 #[.slice A n c, .slice A' n' c'] w fun e w' => e = .returned (.bool (partB xs ys)) ∧ Below w.heap.size w w' := by
  by_cases hxy : (rightB xs && rightB ys) = true
  · have hx : Hid (rightB xs = true) := Lib.hid (by simp at hxy; exact hxy.1)
    have hy : Hid (rightB ys = true) := Lib.hid (by simp at hxy; exact hxy.2)
    clear hxy
    go_enter Tryd.func9, Tryd.ntmps9
    go_wp2_with fail
    refine (both_yes _ _ _ _ _ _ xs ys _ hr hr' hn hn' hx.out hy.out).mono ?_
    rintro e w1 ⟨⟨a0, a1, a2, a3, b0, b1, b2, b3, ha, hb, rfl⟩, hb1⟩
    have HA := Lib.hid ha
    have HBB := Lib.hid hb
    obtain ⟨ua0, ua1, ua2, ua3⟩ := four_lt ha
    obtain ⟨ub0, ub1, ub2, ub3⟩ := four_lt hb
    have HZ := Lib.hid (part_four hx.out hy.out (four_less ha hb))
    clear ha hb hr hr'
    have hz := hb1.size
    go_wp2_with fail
    refine (wless_any a0 a1 a2 a3 b0 b1 b2 b3 _ ua0 ua1 ua2 ua3 ub0 ub1 ub2 ub3).mono ?_
    rintro e w2 ⟨rfl, hb2⟩
    have hb3 : Below w.heap.size w w2 := ((hb1.alloc (by omega) _).alloc (by simp; omega) _).trans (hb2.mono (by simp; omega))
    have hz3 := hb3.size
    go_wp2_with fail
    refine (empty_any _ _ _ _ _).mono ?_
    rintro e w3 ⟨rfl, hb4⟩
    rw [HZ.out]
    generalize hzz : partB xs ys = z at *
    have HZZ := Lib.hid hzz
    clear hzz
    go_wp2
    go_ret
    exact ⟨ret_bool HZZ.out, hb3.trans (hb4.mono hz3)⟩
  · have hno : (rightB xs && rightB ys) = false := by simpa using hxy
    have HL : Hid (partB xs ys = false) := Lib.hid (by unfold partB; rw [hno]; rfl)
    have HN := Lib.hid hno
    clear hxy hno
    go_enter Tryd.func9, Tryd.ntmps9
    go_wp2_with fail
    refine (both_no _ _ _ _ _ _ xs ys _ hr hr' hn hn' HN.out).mono ?_
    rintro e w1 ⟨rfl, hb1⟩
    have hz := hb1.size
    clear hr hr'
    go_wp2
    go_ret
    exact ⟨ret_bool HL.out, (hb1.alloc (by omega) _).alloc (by simp; omega) _⟩

set_option maxHeartbeats 1000000 in
theorem apart_any (A A' : Option Addr) (n c n' c' : Nat) (xs ys : List Int) (w : World) (hr : RI w w.heap.size A n xs) (hr' : RI w w.heap.size A' n' ys) (hn : n ≤ maxLen) (hn' : n' ≤ maxLen) :
    Calls Tryd.prog 16 #[.slice A n c, .slice A' n' c'] w fun e w' => e = .returned (.bool (apartB xs ys)) ∧ Below w.heap.size w w' := by
  by_cases hxy : (rightB xs && rightB ys) = true
  · have hx : Hid (rightB xs = true) := Lib.hid (by simp at hxy; exact hxy.1)
    have hy : Hid (rightB ys = true) := Lib.hid (by simp at hxy; exact hxy.2)
    clear hxy
    go_enter Tryd.func16, Tryd.ntmps16
    go_wp2_with fail
    refine (both_yes _ _ _ _ _ _ xs ys _ hr hr' hn hn' hx.out hy.out).mono ?_
    rintro e w1 ⟨⟨a0, a1, a2, a3, b0, b1, b2, b3, ha, hb, rfl⟩, hb1⟩
    have HA := Lib.hid ha
    have HBB := Lib.hid hb
    obtain ⟨ua0, ua1, ua2, ua3⟩ := four_lt ha
    obtain ⟨ub0, ub1, ub2, ub3⟩ := four_lt hb
    have HZ := Lib.hid (apart_four hx.out hy.out (four_and ha hb))
    clear ha hb hr hr'
    have hz := hb1.size
    go_wp2_with fail
    refine (wmeet_any a0 a1 a2 a3 b0 b1 b2 b3 _ ua0 ua1 ua2 ua3 ub0 ub1 ub2 ub3).mono ?_
    rintro e w2 ⟨rfl, hb2⟩
    have hb3 : Below w.heap.size w w2 := ((hb1.alloc (by omega) _).alloc (by simp; omega) _).trans (hb2.mono (by simp; omega))
    have hz3 := hb3.size
    go_wp2_with fail
    refine (empty_any _ _ _ _ _).mono ?_
    rintro e w3 ⟨rfl, hb4⟩
    rw [HZ.out]
    generalize hzz : apartB xs ys = z at *
    have HZZ := Lib.hid hzz
    clear hzz
    go_wp2
    go_ret
    exact ⟨ret_bool HZZ.out, hb3.trans (hb4.mono hz3)⟩
  · have hno : (rightB xs && rightB ys) = false := by simpa using hxy
    have HL : Hid (apartB xs ys = false) := Lib.hid (by unfold apartB; rw [hno]; rfl)
    have HN := Lib.hid hno
    clear hxy hno
    go_enter Tryd.func16, Tryd.ntmps16
    go_wp2_with fail
    refine (both_no _ _ _ _ _ _ xs ys _ hr hr' hn hn' HN.out).mono ?_
    rintro e w1 ⟨rfl, hb1⟩
    have hz := hb1.size
    clear hr hr'
    go_wp2
    go_ret
    exact ⟨ret_bool HL.out, (hb1.alloc (by omega) _).alloc (by simp; omega) _⟩


theorem has_word {xs : List Int} {a i r x : Nat} (h : a = wordOf (inB xs) i) (hs : rightB xs = true) (hr : r < 64) (hx : x = 64 * i + r) : hasB xs (x : Int) = (bits .and .u64 ((a : Int) / 2 ^ r) 1 == 1) := by
  subst h
  have hlt : wordOf (inB xs) i / 2 ^ r < 18446744073709551616 := Nat.lt_of_le_of_lt (Nat.div_le_self _ _) (wordOf_lt _ _)
  have e : ((wordOf (inB xs) i : Nat) : Int) / 2 ^ r = ((wordOf (inB xs) i / 2 ^ r : Nat) : Int) := by simp
  have e2 : bits .and .u64 (((wordOf (inB xs) i / 2 ^ r : Nat) : Int)) 1 = ((wordOf (inB xs) i / 2 ^ r &&& 1 : Nat) : Int) := u64_and_nat _ 1 hlt (by omega)
  rw [e, e2, nat_mask1]
  have hb : hasB xs (x : Int) = (wordOf (inB xs) i).testBit r := by
    unfold wordOf
    rw [testBit_bitsTo, ← hx]
    unfold hasB inB
    simp [hs, hr]
  rw [hb, Nat.testBit_eq_decide_div_mod_eq, Bool.eq_iff_iff]
  simp
  omega



end Go.Proofs.YtnlgnpdajblfnaaDoor
