/- What set.Part, Apart and Has, and the reference's Has and Which answer: of lists of int, what the document says of sets. -/
import Derived.Test.YtokjinihdanhbaaSetOps
namespace Go.Proofs.Ytokjinihdanhbaa
open Go.RowKit
attribute [local go_sem] alloc_drewN setCell_drewN

theorem four_zero {p : Int → Bool} {a0 a1 a2 a3 : Nat} (h : Four p a0 a1 a2 a3) : decide (a0 = 0 ∧ a1 = 0 ∧ a2 = 0 ∧ a3 = 0) = true ↔ ∀ n : Int, 0 ≤ n → n ≤ 255 → p n = false := by
  obtain ⟨rfl, rfl, rfl, rfl⟩ := h
  rw [decide_eq_true_eq]
  constructor
  · rintro ⟨h0, h1, h2, h3⟩ n g0 g1
    have hk : n / 64 = 0 ∨ n / 64 = 1 ∨ n / 64 = 2 ∨ n / 64 = 3 := by omega
    rcases hk with hk | hk | hk | hk
    · have := bitsTo_zero.1 h0 (n - 0).toNat (by omega)
      have e : ((64 * 0 + (n - 0).toNat : Nat) : Int) = n := by omega
      rwa [e] at this
    · have := bitsTo_zero.1 h1 (n - 64).toNat (by omega)
      have e : ((64 * 1 + (n - 64).toNat : Nat) : Int) = n := by omega
      rwa [e] at this
    · have := bitsTo_zero.1 h2 (n - 128).toNat (by omega)
      have e : ((64 * 2 + (n - 128).toNat : Nat) : Int) = n := by omega
      rwa [e] at this
    · have := bitsTo_zero.1 h3 (n - 192).toNat (by omega)
      have e : ((64 * 3 + (n - 192).toNat : Nat) : Int) = n := by omega
      rwa [e] at this
  · intro h
    exact ⟨bitsTo_zero.2 fun j hj => h _ (by omega) (by omega), bitsTo_zero.2 fun j hj => h _ (by omega) (by omega), bitsTo_zero.2 fun j hj => h _ (by omega) (by omega), bitsTo_zero.2 fun j hj => h _ (by omega) (by omega)⟩
theorem part_four {xs ys : List Int} (hx : rightB xs = true) (hy : rightB ys = true) {a0 a1 a2 a3 : Nat} (h : Four (fun n => inB xs n && !inB ys n) a0 a1 a2 a3) : decide (a0 = 0 ∧ a1 = 0 ∧ a2 = 0 ∧ a3 = 0) = partB xs ys := by
  rw [Bool.eq_iff_iff, four_zero h]
  unfold partB
  rw [hx, hy]
  simp only [Bool.and_self, Bool.true_and, List.all_eq_true]
  constructor
  · intro h n hn
    have := right_mem hx n hn
    have h2 := h n this.1 this.2
    have h3 : inB xs n = true := List.contains_iff_mem.2 hn
    rw [h3] at h2
    simpa [inB] using h2
  · intro h n _ _
    cases h3 : inB xs n with
    | false => rfl
    | true => have := h n (List.contains_iff_mem.1 h3); simpa [inB] using this
theorem apart_four {xs ys : List Int} (hx : rightB xs = true) (hy : rightB ys = true) {a0 a1 a2 a3 : Nat} (h : Four (fun n => inB xs n && inB ys n) a0 a1 a2 a3) : decide (a0 = 0 ∧ a1 = 0 ∧ a2 = 0 ∧ a3 = 0) = apartB xs ys := by
  rw [Bool.eq_iff_iff, four_zero h]
  unfold apartB
  rw [hx, hy]
  simp only [Bool.and_self, Bool.true_and, List.all_eq_true]
  constructor
  · intro h n hn
    have := right_mem hx n hn
    have h2 := h n this.1 this.2
    have h3 : inB xs n = true := List.contains_iff_mem.2 hn
    rw [h3] at h2
    simpa [inB] using h2
  · intro h n _ _
    cases h3 : inB xs n with
    | false => rfl
    | true => have := h n (List.contains_iff_mem.1 h3); simpa [inB] using this

set_option maxHeartbeats 1000000 in
theorem part_any (A A' : Option Addr) (n c n' c' : Nat) (xs ys : List Int) (w : World) (hr : RI w w.heap.size A n xs) (hr' : RI w w.heap.size A' n' ys) (hn : n ≤ maxLen) (hn' : n' ≤ maxLen) :
    Calls Try.prog 23 #[.slice A n c, .slice A' n' c'] w fun e w' => e = .returned (.bool (partB xs ys)) ∧ Below w.heap.size w w' := by
  by_cases hxy : (rightB xs && rightB ys) = true
  · have hx : Hid (rightB xs = true) := Lib.hid (by simp at hxy; exact hxy.1)
    have hy : Hid (rightB ys = true) := Lib.hid (by simp at hxy; exact hxy.2)
    clear hxy
    go_enter Try.func23, Try.ntmps23
    go_wp2_with fail
    refine (both_yes _ _ _ _ _ _ xs ys _ hr hr' hn hn' hx.out hy.out).mono ?_
    rintro e w1 ⟨⟨a0, a1, a2, a3, b0, b1, b2, b3, ha, hb, rfl⟩, hb1⟩
    have HA := Lib.hid ha
    have HBB := Lib.hid hb
    obtain ⟨ua0, ua1, ua2, ua3⟩ := four_lt ha
    obtain ⟨ub0, ub1, ub2, ub3⟩ := four_lt hb
    have HZ := Lib.hid (part_four hx.out hy.out (four_less ha hb))
    clear ha hb hr hr'
    have hz := hb1.size
    go_wp2_with fail
    refine (wless_any a0 a1 a2 a3 b0 b1 b2 b3 _ ua0 ua1 ua2 ua3 ub0 ub1 ub2 ub3).mono ?_
    rintro e w2 ⟨rfl, hb2⟩
    have hb3 : Below w.heap.size w w2 := ((hb1.alloc (by omega) _).alloc (by simp; omega) _).trans (hb2.mono (by simp; omega))
    have hz3 := hb3.size
    go_wp2_with fail
    refine (empty_any _ _ _ _ _).mono ?_
    rintro e w3 ⟨rfl, hb4⟩
    rw [HZ.out]
    generalize hzz : partB xs ys = z at *
    have HZZ := Lib.hid hzz
    clear hzz
    go_wp2
    go_ret
    exact ⟨ret_bool HZZ.out, hb3.trans (hb4.mono hz3)⟩
  · have hno : (rightB xs && rightB ys) = false := by simpa using hxy
    have HL : Hid (partB xs ys = false) := Lib.hid (by unfold partB; rw [hno]; rfl)
    have HN := Lib.hid hno
    clear hxy hno
    go_enter Try.func23, Try.ntmps23
    go_wp2_with fail
    refine (both_no _ _ _ _ _ _ xs ys _ hr hr' hn hn' HN.out).mono ?_
    rintro e w1 ⟨rfl, hb1⟩
    have hz := hb1.size
    clear hr hr'
    go_wp2
    go_ret
    exact ⟨ret_bool HL.out, (hb1.alloc (by omega) _).alloc (by simp; omega) _⟩

set_option maxHeartbeats 1000000 in
theorem apart_any (A A' : Option Addr) (n c n' c' : Nat) (xs ys : List Int) (w : World) (hr : RI w w.heap.size A n xs) (hr' : RI w w.heap.size A' n' ys) (hn : n ≤ maxLen) (hn' : n' ≤ maxLen) :
    Calls Try.prog 24 #[.slice A n c, .slice A' n' c'] w fun e w' => e = .returned (.bool (apartB xs ys)) ∧ Below w.heap.size w w' := by
  by_cases hxy : (rightB xs && rightB ys) = true
  · have hx : Hid (rightB xs = true) := Lib.hid (by simp at hxy; exact hxy.1)
    have hy : Hid (rightB ys = true) := Lib.hid (by simp at hxy; exact hxy.2)
    clear hxy
    go_enter Try.func24, Try.ntmps24
    go_wp2_with fail
    refine (both_yes _ _ _ _ _ _ xs ys _ hr hr' hn hn' hx.out hy.out).mono ?_
    rintro e w1 ⟨⟨a0, a1, a2, a3, b0, b1, b2, b3, ha, hb, rfl⟩, hb1⟩
    have HA := Lib.hid ha
    have HBB := Lib.hid hb
    obtain ⟨ua0, ua1, ua2, ua3⟩ := four_lt ha
    obtain ⟨ub0, ub1, ub2, ub3⟩ := four_lt hb
    have HZ := Lib.hid (apart_four hx.out hy.out (four_and ha hb))
    clear ha hb hr hr'
    have hz := hb1.size
    go_wp2_with fail
    refine (wmeet_any a0 a1 a2 a3 b0 b1 b2 b3 _ ua0 ua1 ua2 ua3 ub0 ub1 ub2 ub3).mono ?_
    rintro e w2 ⟨rfl, hb2⟩
    have hb3 : Below w.heap.size w w2 := ((hb1.alloc (by omega) _).alloc (by simp; omega) _).trans (hb2.mono (by simp; omega))
    have hz3 := hb3.size
    go_wp2_with fail
    refine (empty_any _ _ _ _ _).mono ?_
    rintro e w3 ⟨rfl, hb4⟩
    rw [HZ.out]
    generalize hzz : apartB xs ys = z at *
    have HZZ := Lib.hid hzz
    clear hzz
    go_wp2
    go_ret
    exact ⟨ret_bool HZZ.out, hb3.trans (hb4.mono hz3)⟩
  · have hno : (rightB xs && rightB ys) = false := by simpa using hxy
    have HL : Hid (apartB xs ys = false) := Lib.hid (by unfold apartB; rw [hno]; rfl)
    have HN := Lib.hid hno
    clear hxy hno
    go_enter Try.func24, Try.ntmps24
    go_wp2_with fail
    refine (both_no _ _ _ _ _ _ xs ys _ hr hr' hn hn' HN.out).mono ?_
    rintro e w1 ⟨rfl, hb1⟩
    have hz := hb1.size
    clear hr hr'
    go_wp2
    go_ret
    exact ⟨ret_bool HL.out, (hb1.alloc (by omega) _).alloc (by simp; omega) _⟩

theorem refHas_any (A : Option Addr) (n c : Nat) (xs : List Int) (v : Int) (w : World) (hr : RI w w.heap.size A n xs) (hn : n ≤ maxLen) :
    Calls Try.prog 33 #[.slice A n c, .int .i64 v] w fun e w' => e = .returned (.bool (hasB xs v)) ∧ ∃ k, w' = w.drewN k := by
  cases hx : rightB xs with
  | false =>
    have HX := Lib.hid hx
    have HL : Hid (hasB xs v = false) := Lib.hid (by unfold hasB; rw [hx]; rfl)
    clear hx
    go_enter Try.func33, Try.ntmps33
    go_wp2_with fail
    refine (refRight_any _ _ _ xs _ _ hr hn).mono ?_
    rintro e w1 ⟨rfl, k, rfl⟩
    rw [HX.out]
    go_wp2
    go_ret
    exact ⟨ret_bool HL.out, k, rfl⟩
  | true =>
    have HX := Lib.hid hx
    have HL : Hid (hasB xs v = inB xs v) := Lib.hid (by unfold hasB inB; rw [hx]; rfl)
    clear hx
    go_enter Try.func33, Try.ntmps33
    go_wp2_with fail
    refine (refRight_any _ _ _ xs _ _ hr hn).mono ?_
    rintro e w1 ⟨rfl, k, rfl⟩
    rw [HX.out]
    go_wp2_with fail
    refine (in_any _ _ _ xs v _ _ (hr.drewN k) hn).mono ?_
    rintro e w2 ⟨rfl, rfl⟩
    go_wp2
    go_ret
    exact ⟨ret_bool HL.out, k, rfl⟩

set_option maxHeartbeats 1000000 in
theorem has_no (A : Option Addr) (n c : Nat) (xs : List Int) (v : Int) (w : World) (hr : RI w w.heap.size A n xs) (hn : n ≤ maxLen) (h : rightB xs = false ∨ v < 0 ∨ 256 ≤ v) :
    Calls Try.prog 22 #[.slice A n c, .int .i64 v] w fun e w' => e = .returned (.bool (hasB xs v)) ∧ Below w.heap.size w w' := by
  have HL : Hid (hasB xs v = false) := Lib.hid (by
    unfold hasB
    rcases h with h | h
    · rw [h]; rfl
    · cases hx : rightB xs with
      | false => rfl
      | true =>
        rw [Bool.true_and, ← Bool.not_eq_true, List.contains_iff_mem]
        intro hm
        have := right_mem hx v hm
        omega)
  have H := Lib.hid h
  clear h
  go_enter Try.func22, Try.ntmps22
  go_wp2_with fail
  refine (pack_any _ _ _ xs _ hr hn).mono ?_
  rintro e w1 ⟨⟨a0, a1, a2, a3, -, rfl⟩, hb1⟩
  clear hr
  cases hx : rightB xs with
  | false =>
    have HX := Lib.hid hx
    clear hx
    go_wp2
    go_ret
    exact ⟨ret_bool HL.out, hb1.alloc (hb1.size) _⟩
  | true =>
    have hv : v < 0 ∨ (¬ v < 0 ∧ 256 ≤ v) := by
      rcases H.out with h | h
      · rw [hx] at h; cases h
      · omega
    have HX := Lib.hid hx
    clear hx
    rcases hv with hv | ⟨hv0, hv⟩
    · go_wp2
      go_ret
      exact ⟨ret_bool HL.out, hb1.alloc (hb1.size) _⟩
    · go_wp2
      go_ret
      exact ⟨ret_bool HL.out, hb1.alloc (hb1.size) _⟩

theorem has_word {xs : List Int} {a i r x : Nat} (h : a = wordOf (inB xs) i) (hs : rightB xs = true) (hr : r < 64) (hx : x = 64 * i + r) : hasB xs (x : Int) = (bits .and .u64 ((a : Int) / 2 ^ r) 1 == 1) := by
  subst h
  have hlt : wordOf (inB xs) i / 2 ^ r < 18446744073709551616 := Nat.lt_of_le_of_lt (Nat.div_le_self _ _) (wordOf_lt _ _)
  have e : ((wordOf (inB xs) i : Nat) : Int) / 2 ^ r = ((wordOf (inB xs) i / 2 ^ r : Nat) : Int) := by simp
  have e2 : bits .and .u64 (((wordOf (inB xs) i / 2 ^ r : Nat) : Int)) 1 = ((wordOf (inB xs) i / 2 ^ r &&& 1 : Nat) : Int) := u64_and_nat _ 1 hlt (by omega)
  rw [e, e2, nat_mask1]
  have hb : hasB xs (x : Int) = (wordOf (inB xs) i).testBit r := by
    unfold wordOf
    rw [testBit_bitsTo, ← hx]
    unfold hasB inB
    simp [hs, hr]
  rw [hb, Nat.testBit_eq_decide_div_mod_eq, Bool.eq_iff_iff]
  simp
  omega

set_option maxHeartbeats 1000000 in
theorem has_yes (A : Option Addr) (n c : Nat) (xs : List Int) (x : Nat) (w : World) (hr : RI w w.heap.size A n xs) (hn : n ≤ maxLen) (hset : rightB xs = true) (hx : x < 256) :
    Calls Try.prog 22 #[.slice A n c, .int .i64 (x : Int)] w fun e w' => e = .returned (.bool (hasB xs x)) ∧ Below w.heap.size w w' := by
  have HS := Lib.hid hset
  clear hset
  go_enter Try.func22, Try.ntmps22
  go_wp2_with fail
  refine (pack_any _ _ _ xs _ hr hn).mono ?_
  rintro e w1 ⟨⟨a0, a1, a2, a3, h4, rfl⟩, hb1⟩
  have H4 := Lib.hid (h4 HS.out)
  clear hr h4
  rw [HS.out]
  obtain ⟨r, hr⟩ : ∃ r, r = x % 64 := ⟨_, rfl⟩
  have hr64 : r < 64 := by omega
  have hm : (x : Int) % 64 = (r : Int) := by omega
  have Hr := Lib.hid hr
  clear hr
  have hi : x / 64 = 0 ∨ x / 64 = 1 ∨ x / 64 = 2 ∨ x / 64 = 3 := by omega
  rcases hi with hi | hi | hi | hi
  · have hd : (x : Int) / 64 = 0 := by omega
    have HL := Lib.hid (has_word H4.out.1 HS.out hr64 (show x = 64 * 0 + r by have := Hr.out; omega))
    clear hi
    go_wp2
    go_ret
    exact ⟨ret_bool HL.out, hb1.alloc hb1.size _⟩
  · have hd : (x : Int) / 64 = 1 := by omega
    have HL := Lib.hid (has_word H4.out.2.1 HS.out hr64 (show x = 64 * 1 + r by have := Hr.out; omega))
    clear hi
    go_wp2
    go_ret
    exact ⟨ret_bool HL.out, hb1.alloc hb1.size _⟩
  · have hd : (x : Int) / 64 = 2 := by omega
    have HL := Lib.hid (has_word H4.out.2.2.1 HS.out hr64 (show x = 64 * 2 + r by have := Hr.out; omega))
    clear hi
    go_wp2
    go_ret
    exact ⟨ret_bool HL.out, hb1.alloc hb1.size _⟩
  · have hd : (x : Int) / 64 = 3 := by omega
    have HL := Lib.hid (has_word H4.out.2.2.2 HS.out hr64 (show x = 64 * 3 + r by have := Hr.out; omega))
    clear hi
    go_wp2
    go_ret
    exact ⟨ret_bool HL.out, hb1.alloc hb1.size _⟩

theorem has_any (A : Option Addr) (n c : Nat) (xs : List Int) (v : Int) (w : World) (hr : RI w w.heap.size A n xs) (hn : n ≤ maxLen) :
    Calls Try.prog 22 #[.slice A n c, .int .i64 v] w fun e w' => e = .returned (.bool (hasB xs v)) ∧ Below w.heap.size w w' := by
  cases hx : rightB xs with
  | false => exact has_no A n c xs v w hr hn (.inl hx)
  | true =>
    by_cases hv : 0 ≤ v ∧ v < 256
    · obtain ⟨x, rfl⟩ : ∃ x : Nat, v = x := ⟨v.toNat, by omega⟩
      exact has_yes A n c xs x w hr hn hx (by omega)
    · exact has_no A n c xs v w hr hn (by omega)

end Go.Proofs.Ytokjinihdanhbaa
