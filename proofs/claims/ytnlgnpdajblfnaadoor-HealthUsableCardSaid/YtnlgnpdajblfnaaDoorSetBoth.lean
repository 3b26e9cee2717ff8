/- What set.packBoth answers: of two lists of int that are sets the words of both, else none. -/
import Derived.Test.YtnlgnpdajblfnaaDoorSetPack
import Derived.Deep.DeepCutAuto
namespace Go.Proofs.YtnlgnpdajblfnaaDoor
open Go.RowKit
attribute [local go_sem] alloc_drewN setCell_drewN

theorem bcell {B : Nat} {W w1 : World} (hb : Below B W w1) : (∀ b o, b < B → w1.cell? ⟨b, o, none⟩ = W.cell? ⟨b, o, none⟩) ∧ (∀ b o, b < B → w1.frozen? ⟨b, o, none⟩ = W.frozen? ⟨b, o, none⟩) :=
  ⟨fun b o h => hb.cell (p := ⟨b, o, none⟩) h, fun b o h => hb.frozen (p := ⟨b, o, none⟩) h⟩

set_option maxHeartbeats 1000000 in
theorem both_yes (A A' : Option Addr) (n c n' c' : Nat) (xs ys : List Int) (w : World) (hr : RI w w.heap.size A n xs) (hr' : RI w w.heap.size A' n' ys) (hn : n ≤ maxLen) (hn' : n' ≤ maxLen) (hx : rightB xs = true) (hy : rightB ys = true) :
    Calls Tryd.prog 22 #[.slice A n c, .slice A' n' c'] w fun e w' =>
      (∃ a0 a1 a2 a3 b0 b1 b2 b3 : Nat, Four (inB xs) a0 a1 a2 a3 ∧ Four (inB ys) b0 b1 b2 b3 ∧ e = .returned (.tuple #[.agg #[.int .u64 a0, .int .u64 a1, .int .u64 a2, .int .u64 a3], .agg #[.int .u64 b0, .int .u64 b1, .int .u64 b2, .int .u64 b3], .bool true])) ∧ Below w.heap.size w w' := by
  have HX := Lib.hid hx
  have HY := Lib.hid hy
  clear hx hy
  go_enter Tryd.func22, Tryd.ntmps22
  go_wp2_with fail
  have hb0 : Below w.heap.size w ((w.alloc (.cells #[.int .u64 0, .int .u64 0, .int .u64 0, .int .u64 0] 43)).alloc (.cells #[.int .u64 0, .int .u64 0, .int .u64 0, .int .u64 0] 43)) := by go_grown
  refine (pack_any _ _ _ xs _ ((hr.below hb0).more hb0.size) hn).mono ?_
  rintro e w1 ⟨⟨a0, a1, a2, a3, ha, rfl⟩, hb1⟩
  have HA := Lib.hid ha
  clear ha
  rw [HX.out]
  obtain ⟨hc1, hf1⟩ := bcell hb1
  have hz1 : w.heap.size + 1 + 1 ≤ w1.heap.size := by have := hb1.size; simp at this; omega
  have hz2 : w.heap.size + 1 < w1.heap.size := by omega
  have hz2' : w.heap.size < w1.heap.size := by omega
  simp only [World.size_alloc] at hc1 hf1
  go_wp2_with fail
  have hb2 : Below w.heap.size w (w1.alloc (.cells #[.int .u64 a0, .int .u64 a1, .int .u64 a2, .int .u64 a3] 43)) := (hb0.trans (hb1.mono (by simp; omega))).alloc (by omega) _
  refine (pack_any _ _ _ ys _ ((hr'.below hb2).more hb2.size) hn').mono ?_
  rintro e w2 ⟨⟨b0, b1, b2, b3, hb, rfl⟩, hb3⟩
  have HB := Lib.hid hb
  clear hb
  rw [HY.out]
  obtain ⟨hc3, hf3⟩ := bcell hb3
  have hz3 : w1.heap.size + 1 ≤ w2.heap.size := by have := hb3.size; simp at this; omega
  simp only [World.size_alloc] at hc3 hf3
  have hz4 : w1.heap.size < w2.heap.size := by omega
  have hz5 : w.heap.size + 1 < w2.heap.size := by omega
  have hz6 : w.heap.size < w2.heap.size := by omega
  have hz7 : w.heap.size < w1.heap.size + 1 := by omega
  have hz8 : w.heap.size + 1 < w1.heap.size + 1 := by omega
  have hb4 : Below w.heap.size w (w2.alloc (.cells #[.int .u64 b0, .int .u64 b1, .int .u64 b2, .int .u64 b3] 43)) := (hb2.trans (hb3.mono (by simp; omega))).alloc (by omega) _
  have cx0 : (w2.alloc (.cells #[.int .u64 b0, .int .u64 b1, .int .u64 b2, .int .u64 b3] 43)).cell? ⟨w1.heap.size, 0, none⟩ = some (.int .u64 a0) := by go_simp
  have cx1 : (w2.alloc (.cells #[.int .u64 b0, .int .u64 b1, .int .u64 b2, .int .u64 b3] 43)).cell? ⟨w1.heap.size, 1, none⟩ = some (.int .u64 a1) := by go_simp
  have cx2 : (w2.alloc (.cells #[.int .u64 b0, .int .u64 b1, .int .u64 b2, .int .u64 b3] 43)).cell? ⟨w1.heap.size, 2, none⟩ = some (.int .u64 a2) := by go_simp
  have cx3 : (w2.alloc (.cells #[.int .u64 b0, .int .u64 b1, .int .u64 b2, .int .u64 b3] 43)).cell? ⟨w1.heap.size, 3, none⟩ = some (.int .u64 a3) := by go_simp
  have cy0 : (w2.alloc (.cells #[.int .u64 b0, .int .u64 b1, .int .u64 b2, .int .u64 b3] 43)).cell? ⟨w2.heap.size, 0, none⟩ = some (.int .u64 b0) := by go_simp
  have cy1 : (w2.alloc (.cells #[.int .u64 b0, .int .u64 b1, .int .u64 b2, .int .u64 b3] 43)).cell? ⟨w2.heap.size, 1, none⟩ = some (.int .u64 b1) := by go_simp
  have cy2 : (w2.alloc (.cells #[.int .u64 b0, .int .u64 b1, .int .u64 b2, .int .u64 b3] 43)).cell? ⟨w2.heap.size, 2, none⟩ = some (.int .u64 b2) := by go_simp
  have cy3 : (w2.alloc (.cells #[.int .u64 b0, .int .u64 b1, .int .u64 b2, .int .u64 b3] 43)).cell? ⟨w2.heap.size, 3, none⟩ = some (.int .u64 b3) := by go_simp
  have cr0 : (w2.alloc (.cells #[.int .u64 b0, .int .u64 b1, .int .u64 b2, .int .u64 b3] 43)).cell? ⟨w.heap.size, 0, none⟩ = some (.int .u64 0) := by go_simp
  have fr0 : (w2.alloc (.cells #[.int .u64 b0, .int .u64 b1, .int .u64 b2, .int .u64 b3] 43)).frozen? ⟨w.heap.size, 0, none⟩ = false := by go_simp
  have cr1 : (w2.alloc (.cells #[.int .u64 b0, .int .u64 b1, .int .u64 b2, .int .u64 b3] 43)).cell? ⟨w.heap.size, 1, none⟩ = some (.int .u64 0) := by go_simp
  have fr1 : (w2.alloc (.cells #[.int .u64 b0, .int .u64 b1, .int .u64 b2, .int .u64 b3] 43)).frozen? ⟨w.heap.size, 1, none⟩ = false := by go_simp
  have cr2 : (w2.alloc (.cells #[.int .u64 b0, .int .u64 b1, .int .u64 b2, .int .u64 b3] 43)).cell? ⟨w.heap.size, 2, none⟩ = some (.int .u64 0) := by go_simp
  have fr2 : (w2.alloc (.cells #[.int .u64 b0, .int .u64 b1, .int .u64 b2, .int .u64 b3] 43)).frozen? ⟨w.heap.size, 2, none⟩ = false := by go_simp
  have cr3 : (w2.alloc (.cells #[.int .u64 b0, .int .u64 b1, .int .u64 b2, .int .u64 b3] 43)).cell? ⟨w.heap.size, 3, none⟩ = some (.int .u64 0) := by go_simp
  have fr3 : (w2.alloc (.cells #[.int .u64 b0, .int .u64 b1, .int .u64 b2, .int .u64 b3] 43)).frozen? ⟨w.heap.size, 3, none⟩ = false := by go_simp
  have cs0 : (w2.alloc (.cells #[.int .u64 b0, .int .u64 b1, .int .u64 b2, .int .u64 b3] 43)).cell? ⟨w.heap.size + 1, 0, none⟩ = some (.int .u64 0) := by go_simp
  have fs0 : (w2.alloc (.cells #[.int .u64 b0, .int .u64 b1, .int .u64 b2, .int .u64 b3] 43)).frozen? ⟨w.heap.size + 1, 0, none⟩ = false := by go_simp
  have cs1 : (w2.alloc (.cells #[.int .u64 b0, .int .u64 b1, .int .u64 b2, .int .u64 b3] 43)).cell? ⟨w.heap.size + 1, 1, none⟩ = some (.int .u64 0) := by go_simp
  have fs1 : (w2.alloc (.cells #[.int .u64 b0, .int .u64 b1, .int .u64 b2, .int .u64 b3] 43)).frozen? ⟨w.heap.size + 1, 1, none⟩ = false := by go_simp
  have cs2 : (w2.alloc (.cells #[.int .u64 b0, .int .u64 b1, .int .u64 b2, .int .u64 b3] 43)).cell? ⟨w.heap.size + 1, 2, none⟩ = some (.int .u64 0) := by go_simp
  have fs2 : (w2.alloc (.cells #[.int .u64 b0, .int .u64 b1, .int .u64 b2, .int .u64 b3] 43)).frozen? ⟨w.heap.size + 1, 2, none⟩ = false := by go_simp
  have cs3 : (w2.alloc (.cells #[.int .u64 b0, .int .u64 b1, .int .u64 b2, .int .u64 b3] 43)).cell? ⟨w.heap.size + 1, 3, none⟩ = some (.int .u64 0) := by go_simp
  have fs3 : (w2.alloc (.cells #[.int .u64 b0, .int .u64 b1, .int .u64 b2, .int .u64 b3] 43)).frozen? ⟨w.heap.size + 1, 3, none⟩ = false := by go_simp
  have hsz : w.heap.size + 1 < (w2.alloc (.cells #[.int .u64 b0, .int .u64 b1, .int .u64 b2, .int .u64 b3] 43)).heap.size := by simp; omega
  clear hr hr' hb0 hb1 hb2 hb3 hz1 hz3
  go_wp2
  clear hc1 hf1 hc3 hf3
  generalize (w2.alloc (.cells #[.int .u64 b0, .int .u64 b1, .int .u64 b2, .int .u64 b3] 43)) = W at *
  generalize hB : w.heap.size = B at *
  have HBB := Lib.hid hB
  clear hB
  generalize w1.heap.size = p at *
  generalize w2.heap.size = q at *
  go_region
  all_goals go_wp2
  all_goals
    refine bodyPost_ret (v := .tuple #[.agg #[.int .u64 a0, .int .u64 a1, .int .u64 a2, .int .u64 a3], .agg #[.int .u64 b0, .int .u64 b1, .int .u64 b2, .int .u64 b3], .bool true]) (by simp [results, Tryd.results22, go_sem, *]) rfl ⟨⟨a0, a1, a2, a3, b0, b1, b2, b3, HA.out HX.out, HB.out HY.out, rfl⟩, ?_⟩
    rw [HBB.out]
    go_grown

set_option maxHeartbeats 1000000 in
theorem both_no (A A' : Option Addr) (n c n' c' : Nat) (xs ys : List Int) (w : World) (hr : RI w w.heap.size A n xs) (hr' : RI w w.heap.size A' n' ys) (hn : n ≤ maxLen) (hn' : n' ≤ maxLen) (hxy : (rightB xs && rightB ys) = false) :
    Calls Tryd.prog 22 #[.slice A n c, .slice A' n' c'] w fun e w' =>
      e = .returned (.tuple #[.agg #[.int .u64 0, .int .u64 0, .int .u64 0, .int .u64 0], .agg #[.int .u64 0, .int .u64 0, .int .u64 0, .int .u64 0], .bool false]) ∧ Below w.heap.size w w' := by
  have HXY := Lib.hid hxy
  clear hxy
  obtain ⟨X, hX⟩ : ∃ X, rightB xs = X := ⟨_, rfl⟩
  obtain ⟨Y, hY⟩ : ∃ Y, rightB ys = Y := ⟨_, rfl⟩
  have HX := Lib.hid hX
  have HY := Lib.hid hY
  have HZ : Hid ((X && Y) = false) := Lib.hid (by rw [← hX, ← hY]; exact HXY.out)
  clear hX hY
  go_enter Tryd.func22, Tryd.ntmps22
  go_wp2_with fail
  have hb0 : Below w.heap.size w ((w.alloc (.cells #[.int .u64 0, .int .u64 0, .int .u64 0, .int .u64 0] 43)).alloc (.cells #[.int .u64 0, .int .u64 0, .int .u64 0, .int .u64 0] 43)) := by go_grown
  refine (pack_any _ _ _ xs _ ((hr.below hb0).more hb0.size) hn).mono ?_
  rintro e w1 ⟨⟨a0, a1, a2, a3, ha, rfl⟩, hb1⟩
  have HA := Lib.hid ha
  clear ha
  rw [HX.out]
  obtain ⟨hc1, hf1⟩ := bcell hb1
  have hz1 : w.heap.size + 1 + 1 ≤ w1.heap.size := by have := hb1.size; simp at this; omega
  have hz2 : w.heap.size + 1 < w1.heap.size := by omega
  have hz2' : w.heap.size < w1.heap.size := by omega
  simp only [World.size_alloc] at hc1 hf1
  go_wp2_with fail
  have hb2 : Below w.heap.size w (w1.alloc (.cells #[.int .u64 a0, .int .u64 a1, .int .u64 a2, .int .u64 a3] 43)) := (hb0.trans (hb1.mono (by simp; omega))).alloc (by omega) _
  refine (pack_any _ _ _ ys _ ((hr'.below hb2).more hb2.size) hn').mono ?_
  rintro e w2 ⟨⟨b0, b1, b2, b3, hb, rfl⟩, hb3⟩
  have HB := Lib.hid hb
  clear hb
  rw [HY.out]
  obtain ⟨hc3, hf3⟩ := bcell hb3
  have hz3 : w1.heap.size + 1 ≤ w2.heap.size := by have := hb3.size; simp at this; omega
  simp only [World.size_alloc] at hc3 hf3
  have hz4 : w1.heap.size < w2.heap.size := by omega
  have hz5 : w.heap.size + 1 < w2.heap.size := by omega
  have hz6 : w.heap.size < w2.heap.size := by omega
  have hz7 : w.heap.size < w1.heap.size + 1 := by omega
  have hz8 : w.heap.size + 1 < w1.heap.size + 1 := by omega
  have hb4 : Below w.heap.size w (w2.alloc (.cells #[.int .u64 b0, .int .u64 b1, .int .u64 b2, .int .u64 b3] 43)) := (hb2.trans (hb3.mono (by simp; omega))).alloc (by omega) _
  have cx0 : (w2.alloc (.cells #[.int .u64 b0, .int .u64 b1, .int .u64 b2, .int .u64 b3] 43)).cell? ⟨w1.heap.size, 0, none⟩ = some (.int .u64 a0) := by go_simp
  have cx1 : (w2.alloc (.cells #[.int .u64 b0, .int .u64 b1, .int .u64 b2, .int .u64 b3] 43)).cell? ⟨w1.heap.size, 1, none⟩ = some (.int .u64 a1) := by go_simp
  have cx2 : (w2.alloc (.cells #[.int .u64 b0, .int .u64 b1, .int .u64 b2, .int .u64 b3] 43)).cell? ⟨w1.heap.size, 2, none⟩ = some (.int .u64 a2) := by go_simp
  have cx3 : (w2.alloc (.cells #[.int .u64 b0, .int .u64 b1, .int .u64 b2, .int .u64 b3] 43)).cell? ⟨w1.heap.size, 3, none⟩ = some (.int .u64 a3) := by go_simp
  have cy0 : (w2.alloc (.cells #[.int .u64 b0, .int .u64 b1, .int .u64 b2, .int .u64 b3] 43)).cell? ⟨w2.heap.size, 0, none⟩ = some (.int .u64 b0) := by go_simp
  have cy1 : (w2.alloc (.cells #[.int .u64 b0, .int .u64 b1, .int .u64 b2, .int .u64 b3] 43)).cell? ⟨w2.heap.size, 1, none⟩ = some (.int .u64 b1) := by go_simp
  have cy2 : (w2.alloc (.cells #[.int .u64 b0, .int .u64 b1, .int .u64 b2, .int .u64 b3] 43)).cell? ⟨w2.heap.size, 2, none⟩ = some (.int .u64 b2) := by go_simp
  have cy3 : (w2.alloc (.cells #[.int .u64 b0, .int .u64 b1, .int .u64 b2, .int .u64 b3] 43)).cell? ⟨w2.heap.size, 3, none⟩ = some (.int .u64 b3) := by go_simp
  have cr0 : (w2.alloc (.cells #[.int .u64 b0, .int .u64 b1, .int .u64 b2, .int .u64 b3] 43)).cell? ⟨w.heap.size, 0, none⟩ = some (.int .u64 0) := by go_simp
  have fr0 : (w2.alloc (.cells #[.int .u64 b0, .int .u64 b1, .int .u64 b2, .int .u64 b3] 43)).frozen? ⟨w.heap.size, 0, none⟩ = false := by go_simp
  have cr1 : (w2.alloc (.cells #[.int .u64 b0, .int .u64 b1, .int .u64 b2, .int .u64 b3] 43)).cell? ⟨w.heap.size, 1, none⟩ = some (.int .u64 0) := by go_simp
  have fr1 : (w2.alloc (.cells #[.int .u64 b0, .int .u64 b1, .int .u64 b2, .int .u64 b3] 43)).frozen? ⟨w.heap.size, 1, none⟩ = false := by go_simp
  have cr2 : (w2.alloc (.cells #[.int .u64 b0, .int .u64 b1, .int .u64 b2, .int .u64 b3] 43)).cell? ⟨w.heap.size, 2, none⟩ = some (.int .u64 0) := by go_simp
  have fr2 : (w2.alloc (.cells #[.int .u64 b0, .int .u64 b1, .int .u64 b2, .int .u64 b3] 43)).frozen? ⟨w.heap.size, 2, none⟩ = false := by go_simp
  have cr3 : (w2.alloc (.cells #[.int .u64 b0, .int .u64 b1, .int .u64 b2, .int .u64 b3] 43)).cell? ⟨w.heap.size, 3, none⟩ = some (.int .u64 0) := by go_simp
  have fr3 : (w2.alloc (.cells #[.int .u64 b0, .int .u64 b1, .int .u64 b2, .int .u64 b3] 43)).frozen? ⟨w.heap.size, 3, none⟩ = false := by go_simp
  have cs0 : (w2.alloc (.cells #[.int .u64 b0, .int .u64 b1, .int .u64 b2, .int .u64 b3] 43)).cell? ⟨w.heap.size + 1, 0, none⟩ = some (.int .u64 0) := by go_simp
  have fs0 : (w2.alloc (.cells #[.int .u64 b0, .int .u64 b1, .int .u64 b2, .int .u64 b3] 43)).frozen? ⟨w.heap.size + 1, 0, none⟩ = false := by go_simp
  have cs1 : (w2.alloc (.cells #[.int .u64 b0, .int .u64 b1, .int .u64 b2, .int .u64 b3] 43)).cell? ⟨w.heap.size + 1, 1, none⟩ = some (.int .u64 0) := by go_simp
  have fs1 : (w2.alloc (.cells #[.int .u64 b0, .int .u64 b1, .int .u64 b2, .int .u64 b3] 43)).frozen? ⟨w.heap.size + 1, 1, none⟩ = false := by go_simp
  have cs2 : (w2.alloc (.cells #[.int .u64 b0, .int .u64 b1, .int .u64 b2, .int .u64 b3] 43)).cell? ⟨w.heap.size + 1, 2, none⟩ = some (.int .u64 0) := by go_simp
  have fs2 : (w2.alloc (.cells #[.int .u64 b0, .int .u64 b1, .int .u64 b2, .int .u64 b3] 43)).frozen? ⟨w.heap.size + 1, 2, none⟩ = false := by go_simp
  have cs3 : (w2.alloc (.cells #[.int .u64 b0, .int .u64 b1, .int .u64 b2, .int .u64 b3] 43)).cell? ⟨w.heap.size + 1, 3, none⟩ = some (.int .u64 0) := by go_simp
  have fs3 : (w2.alloc (.cells #[.int .u64 b0, .int .u64 b1, .int .u64 b2, .int .u64 b3] 43)).frozen? ⟨w.heap.size + 1, 3, none⟩ = false := by go_simp
  have hsz : w.heap.size + 1 < (w2.alloc (.cells #[.int .u64 b0, .int .u64 b1, .int .u64 b2, .int .u64 b3] 43)).heap.size := by simp; omega
  clear hr hr' hb0 hb1 hb2 hb3 hz1 hz3
  cases X with
  | false =>
    go_upto_region 4 with (fail)
    clear hc1 hf1 hc3 hf3
    generalize (w2.alloc (.cells #[.int .u64 b0, .int .u64 b1, .int .u64 b2, .int .u64 b3] 43)) = W at *
    generalize hB : w.heap.size = B at *
    have HBB := Lib.hid hB
    clear hB
    generalize w1.heap.size = p at *
    generalize w2.heap.size = q at *
    go_wp2
    refine bodyPost_ret (v := .tuple #[.agg #[.int .u64 0, .int .u64 0, .int .u64 0, .int .u64 0], .agg #[.int .u64 0, .int .u64 0, .int .u64 0, .int .u64 0], .bool false]) (by simp [results, Tryd.results22, go_sem, *]) rfl ⟨rfl, ?_⟩
    rw [HBB.out]
    go_grown
  | true =>
    have hY : Y = false := by simpa using HZ.out
    subst hY
    go_upto_region 4 with (fail)
    clear hc1 hf1 hc3 hf3
    generalize (w2.alloc (.cells #[.int .u64 b0, .int .u64 b1, .int .u64 b2, .int .u64 b3] 43)) = W at *
    generalize hB : w.heap.size = B at *
    have HBB := Lib.hid hB
    clear hB
    generalize w1.heap.size = p at *
    generalize w2.heap.size = q at *
    go_wp2
    refine bodyPost_ret (v := .tuple #[.agg #[.int .u64 0, .int .u64 0, .int .u64 0, .int .u64 0], .agg #[.int .u64 0, .int .u64 0, .int .u64 0, .int .u64 0], .bool false]) (by simp [results, Tryd.results22, go_sem, *]) rfl ⟨rfl, ?_⟩
    rw [HBB.out]
    go_grown

end Go.Proofs.YtnlgnpdajblfnaaDoor
