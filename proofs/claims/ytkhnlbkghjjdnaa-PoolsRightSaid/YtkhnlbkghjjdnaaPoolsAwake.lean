/- The fixed answers that the statements of layer 4 ask for first, and the bound on what they look at, as walks over the contracts. -/
import Derived.Test.YtkhnlbkghjjdnaaPoolsFace
import Derived.Test.YtkhnlbkghjjdnaaSame01
namespace Go.Proofs.Ytkhnlbkghjjdnaa
open Go.RowKit

theorem awakeP_new : newPP [4, 2] = ([[(0, 4)], [(0, 2)]], 0) := by decide +kernel
theorem awakeP_take1 : changePP false [[(0, 4)], [(0, 2)]] 0 5 [3, 0] = ([[(0, 1), (5, 4)], [(0, 2)]], 0) := by decide +kernel
theorem awakeP_take2 : changePP false [[(0, 1), (5, 4)], [(0, 2)]] 0 9 [0, 2] = ([[(0, 1), (5, 4)], [(0, 0), (9, 2)]], 0) := by decide +kernel
theorem awakeP_first : firstPP [[(0, 1), (5, 4)], [(0, 0), (9, 2)]] 1 2 [2, 1] = (9, true) := by decide +kernel
theorem awakeP_at : atPP [[(0, 1), (5, 4)], [(0, 0), (9, 2)]] 5 = [4, 0] := by decide +kernel

set_option maxRecDepth 100000 in
set_option maxHeartbeats 4000000 in
theorem poolsAwake_any (H : PoolsOk) (w : World) : Calls Try.prog 9 #[] w fun e w' => e = .returned (.bool true) ∧ Below w.heap.size w w' := by
  have HB := Lib.hid (Below.refl w.heap.size w)
  go_enter Try.func9, Try.ntmps9
  go_wp2_with fail
  have hbL1 := Below.alloc (Below.refl w.heap.size w) (Nat.le_refl _) (.cells #[.int .i64 4, .int .i64 2] 3)
  have hBz := HB.out.size
  have HB2 := Lib.hid (HB.out.trans (hbL1.mono hBz))
  clear HB hBz
  have HB := HB2
  clear HB2
  clear hbL1
  have N1 : Hid (NAsk (w.alloc (.cells #[.int .i64 4, .int .i64 2] 3)) (some ⟨w.heap.size, 0, none⟩) 2 [4, 2]) := Lib.hid ⟨(RI_lit2 w (4) (2) _).more (by simp), by omega, by intro x hx; simp at hx; unfold I64; omega⟩
  refine (calls_ppost (H.new _ _ _ _ _ N1.out.reads (by decide) N1.out.int) awakeP_new).mono ?_
  rintro e w2 ⟨⟨A2, c2, rfl, hr2, hnil2, hc2⟩, hb2⟩
  have hBz := HB.out.size
  have HB2 := Lib.hid (HB.out.trans (hb2.mono hBz))
  clear HB hBz
  have HB := HB2
  clear HB2
  have N12 := Lib.hid (N1.out.next hb2)
  clear N1
  have N1 := N12
  clear N12
  clear hb2
  have F1 := Lib.hid (show PAsk w2 A2 _ c2 _ from ⟨hr2, hnil2, hc2, by decide, by decide⟩)
  clear hr2 hnil2 hc2
  clear N1
  go_wp2_with fail
  have hbL3 := Below.alloc (Below.refl w2.heap.size w2) (Nat.le_refl _) (.cells #[.int .i64 3, .int .i64 0] 3)
  have hBz := HB.out.size
  have HB2 := Lib.hid (HB.out.trans (hbL3.mono hBz))
  clear HB hBz
  have HB := HB2
  clear HB2
  have F12 := Lib.hid (F1.out.next hbL3)
  clear F1
  have F1 := F12
  clear F12
  clear hbL3
  have N2 : Hid (NAsk (w2.alloc (.cells #[.int .i64 3, .int .i64 0] 3)) (some ⟨w2.heap.size, 0, none⟩) 2 [3, 0]) := Lib.hid ⟨(RI_lit2 w2 (3) (0) _).more (by simp), by omega, by intro x hx; simp at hx; unfold I64; omega⟩
  refine (calls_ppost (H.take _ _ _ _ _ _ _ 0 5 _ _ F1.out N2.out ⟨by omega, by omega⟩ ⟨by omega, by omega⟩) awakeP_take1).mono ?_
  rintro e w4 ⟨⟨A4, c4, rfl, hr4, hnil4, hc4⟩, hb4⟩
  have hBz := HB.out.size
  have HB2 := Lib.hid (HB.out.trans (hb4.mono hBz))
  clear HB hBz
  have HB := HB2
  clear HB2
  have F12 := Lib.hid (F1.out.next hb4)
  clear F1
  have F1 := F12
  clear F12
  have N22 := Lib.hid (N2.out.next hb4)
  clear N2
  have N2 := N22
  clear N22
  clear hb4
  have F2 := Lib.hid (show PAsk w4 A4 _ c4 _ from ⟨hr4, hnil4, hc4, by decide, by decide⟩)
  clear hr4 hnil4 hc4
  clear F1
  clear N2
  go_wp2_with fail
  have hbL5 := Below.alloc (Below.refl w4.heap.size w4) (Nat.le_refl _) (.cells #[.int .i64 0, .int .i64 2] 3)
  have hBz := HB.out.size
  have HB2 := Lib.hid (HB.out.trans (hbL5.mono hBz))
  clear HB hBz
  have HB := HB2
  clear HB2
  have F22 := Lib.hid (F2.out.next hbL5)
  clear F2
  have F2 := F22
  clear F22
  clear hbL5
  have N3 : Hid (NAsk (w4.alloc (.cells #[.int .i64 0, .int .i64 2] 3)) (some ⟨w4.heap.size, 0, none⟩) 2 [0, 2]) := Lib.hid ⟨(RI_lit2 w4 (0) (2) _).more (by simp), by omega, by intro x hx; simp at hx; unfold I64; omega⟩
  refine (calls_ppost (H.take _ _ _ _ _ _ _ 0 9 _ _ F2.out N3.out ⟨by omega, by omega⟩ ⟨by omega, by omega⟩) awakeP_take2).mono ?_
  rintro e w6 ⟨⟨A6, c6, rfl, hr6, hnil6, hc6⟩, hb6⟩
  have hBz := HB.out.size
  have HB2 := Lib.hid (HB.out.trans (hb6.mono hBz))
  clear HB hBz
  have HB := HB2
  clear HB2
  have F22 := Lib.hid (F2.out.next hb6)
  clear F2
  have F2 := F22
  clear F22
  have N32 := Lib.hid (N3.out.next hb6)
  clear N3
  have N3 := N32
  clear N32
  clear hb6
  have F3 := Lib.hid (show PAsk w6 A6 _ c6 _ from ⟨hr6, hnil6, hc6, by decide, by decide⟩)
  clear hr6 hnil6 hc6
  clear F2
  clear N3
  go_wp2_with fail
  have hbL7 := Below.alloc (Below.refl w6.heap.size w6) (Nat.le_refl _) (.cells #[.int .i64 2, .int .i64 1] 3)
  have hBz := HB.out.size
  have HB2 := Lib.hid (HB.out.trans (hbL7.mono hBz))
  clear HB hBz
  have HB := HB2
  clear HB2
  have F32 := Lib.hid (F3.out.next hbL7)
  clear F3
  have F3 := F32
  clear F32
  clear hbL7
  have N4 : Hid (NAsk (w6.alloc (.cells #[.int .i64 2, .int .i64 1] 3)) (some ⟨w6.heap.size, 0, none⟩) 2 [2, 1]) := Lib.hid ⟨(RI_lit2 w6 (2) (1) _).more (by simp), by omega, by intro x hx; simp at hx; unfold I64; omega⟩
  refine (calls_first (H.first _ _ _ _ _ _ _ 1 2 _ _ F3.out N4.out ⟨by omega, by omega⟩ ⟨by omega, by omega⟩) awakeP_first).mono ?_
  rintro e w8 ⟨rfl, hb8⟩
  have hBz := HB.out.size
  have HB2 := Lib.hid (HB.out.trans (hb8.mono hBz))
  clear HB hBz
  have HB := HB2
  clear HB2
  have F32 := Lib.hid (F3.out.next hb8)
  clear F3
  have F3 := F32
  clear F32
  have N42 := Lib.hid (N4.out.next hb8)
  clear N4
  have N4 := N42
  clear N42
  clear hb8
  clear N4
  go_wp2_with fail
  refine (calls_ipost (H.at_ _ _ _ _ 5 _ F3.out ⟨by omega, by omega⟩) awakeP_at).mono ?_
  rintro e w9 ⟨⟨A9, c9, rfl, hr9, hnil9, hc9⟩, hb9⟩
  have hBz := HB.out.size
  have HB2 := Lib.hid (HB.out.trans (hb9.mono hBz))
  clear HB hBz
  have HB := HB2
  clear HB2
  have F32 := Lib.hid (F3.out.next hb9)
  clear F3
  have F3 := F32
  clear F32
  clear hb9
  have F4 := Lib.hid hr9
  have F4c := Lib.hid hc9
  have F4z := Lib.hid hnil9
  clear hr9 hc9 hnil9
  go_wp2_with fail
  have hbL10 := Below.alloc (Below.refl w9.heap.size w9) (Nat.le_refl _) (.cells #[.int .i64 4, .int .i64 0] 3)
  have hBz := HB.out.size
  have HB2 := Lib.hid (HB.out.trans (hbL10.mono hBz))
  clear HB hBz
  have HB := HB2
  clear HB2
  have F32 := Lib.hid (F3.out.next hbL10)
  clear F3
  have F3 := F32
  clear F32
  have F42 := Lib.hid (F4.out.next hbL10)
  clear F4
  have F4 := F42
  clear F42
  clear hbL10
  have N5 : Hid (NAsk (w9.alloc (.cells #[.int .i64 4, .int .i64 0] 3)) (some ⟨w9.heap.size, 0, none⟩) 2 [4, 0]) := Lib.hid ⟨(RI_lit2 w9 (4) (0) _).more (by simp), by omega, by intro x hx; simp at hx; unfold I64; omega⟩
  refine (r_same1 F4.out N5.out.reads (by decide) rfl).mono ?_
  rintro e w11 ⟨rfl, hb11⟩
  have hBz := HB.out.size
  have HB2 := Lib.hid (HB.out.trans (hb11.mono hBz))
  clear HB hBz
  have HB := HB2
  clear HB2
  have F32 := Lib.hid (F3.out.next hb11)
  clear F3
  have F3 := F32
  clear F32
  have F42 := Lib.hid (F4.out.next hb11)
  clear F4
  have F4 := F42
  clear F42
  have N52 := Lib.hid (N5.out.next hb11)
  clear N5
  have N5 := N52
  clear N52
  clear hb11
  go_wp2
  go_ret
  exact ⟨rfl, HB.out⟩

def shortB (ls : List (List (Int × Int))) : Bool := decide (ls.length ≤ 6 ∧ ∀ j, j < ls.length → (ls.getD j []).length ≤ 100)
set_option maxRecDepth 100000 in
set_option maxHeartbeats 4000000 in
theorem short_any (A : Option Addr) (n c : Nat) (ls : List (List (Int × Int))) (w : World) (hr : RSS w w.heap.size A n ls) (hn : n ≤ maxLen) :
    Calls Try.prog 10 #[.slice A n c] w fun e w' => e = .returned (.bool (shortB ls)) ∧ Below w.heap.size w w' := by
  unfold maxLen at hn
  have HR := Lib.hid hr
  clear hr
  by_cases h6 : 6 < n
  · have hF : Hid (shortB ls = false) := Lib.hid (by unfold shortB; rw [decide_eq_false_iff_not, HR.out.len]; omega)
    go_enter Try.func10, Try.ntmps10
    go_wp2
    go_ret
    exact ⟨ret_bool hF.out, Below.refl _ _⟩
  · have hd6 : decide (6 < (n : Int)) = false := by simp; omega
    go_enter Try.func10, Try.ntmps10
    go_wp2
    go_loop [3] (fun i => ∃ k : Nat, k ≤ n ∧ i = .int .i64 k ∧ ∀ j, j < k → (ls.getD j []).length ≤ 100) (fun i => n - (intOf i).toNat)
    case atStart => exact ⟨0, Nat.zero_le _, rfl, fun j hj => absurd hj (by omega)⟩
    case round =>
      obtain ⟨k, hk, rfl, hpre⟩ := hrel
      have HP := Lib.hid hpre
      clear hpre
      by_cases hlt : k < n
      · obtain ⟨b, off, A', m, c', rfl, _, hc, hr', _, _, hm⟩ := HR.out.one hlt
        have HL := Lib.hid hr'.1
        clear hr'
        unfold maxLen at hm
        by_cases hm1 : 100 < m
        · have hF : Hid (shortB ls = false) := Lib.hid (by
            unfold shortB
            rw [decide_eq_false_iff_not]
            exact fun h => by have h1 := h.2 k (by rw [HR.out.len]; exact hlt); have h2 := HL.out; omega)
          go_wp2
          go_ret
          exact ⟨ret_bool hF.out, Below.refl _ _⟩
        · have hmd : decide (100 < (m : Int)) = false := by simp; omega
          have hnx : Hid (∀ j, j < k + 1 → (ls.getD j []).length ≤ 100) := Lib.hid (by
            intro j hj
            rcases Nat.lt_or_ge j k with h' | h'
            · exact HP.out j h'
            · obtain rfl : j = k := by omega
              have := HL.out; omega)
          go_wp2
          go_round
          case rel => exact ⟨k + 1, by omega, by go_num, hnx.out⟩
          case measure => simp [intOf]; omega
      · have hF : Hid (shortB ls = true) := Lib.hid (by
          unfold shortB
          rw [decide_eq_true_eq, HR.out.len]
          exact ⟨by omega, fun j hj => HP.out j (by omega)⟩)
        go_wp2
        go_ret
        exact ⟨ret_bool hF.out, Below.refl _ _⟩
theorem short_ask {w : World} {A : Option Addr} {n c : Nat} {ls : List (List (Int × Int))} (hs : shortB ls = true) (hr : RSS w w.heap.size A n ls) (hnil : A = none → c = 0) (hnc : n ≤ c) : PAsk w A n c ls := by
  unfold shortB at hs
  rw [decide_eq_true_eq, hr.len] at hs
  exact ⟨hr, hnil, hnc, by omega, fun j hj => by have := hs.2 j hj; omega⟩

end Go.Proofs.Ytkhnlbkghjjdnaa
