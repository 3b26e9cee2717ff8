/- What set.packBoth answers: of two lists of int that are sets the words of both, else none. What set.Join, Meet, Less, Has, Part and Apart answer: of two lists of int, what the document says of sets; the table of trailing zeros as Go's text lays it. What set.Part, Apart and Has, and the reference's Has and Which answer: of lists of int, what the document says of sets. The program's sets, and the reference's, in one form: what each call answers of lists of int; all that was there is kept. Regions that draw their order and whose callees may make memory of their own, but hand back plain values: walked once, in the order of the text, in the class of all worlds that keep what was there. No program's text is walked here. What the program's functions of layer 10 (held) answer, as one list of contracts: the statements' walks lean on it alone. Written by gen/gen_heldface.py. The fixed answers that the statements of layer 10 ask for first, as a walk over the contracts. Written by gen/gen_heldface.py. The reference's small questions of layer 10: do two spans meet, have two sets a number in common, may a holding be, do two holdings meet. Written by gen/gen_heldref1.py. The reference's May and clash of layer 10. Written by gen/gen_heldref2.py. The reference's Right and At of layer 10. Written by gen/gen_heldref3.py. -/
import Derived.Deep.DeepCutAuto
import Derived.Test.YtbiofikijehlcaaDoorMg03
import Derived.Test.YtbiofikijehlcaaDoorMg01
import Derived.Test.YtbiofikijehlcaaDoorMg02
import Derived.BigQuiet
import Derived.Deep.RegionHeld3
import Derived.LoopTactic
import Derived.Deep.QuietTactic
namespace Go.Proofs.YtbiofikijehlcaaDoor
open Go.RowKit
attribute [local go_sem] alloc_drewN setCell_drewN

theorem bcell {B : Nat} {W w1 : World} (hb : Below B W w1) : (∀ b o, b < B → w1.cell? ⟨b, o, none⟩ = W.cell? ⟨b, o, none⟩) ∧ (∀ b o, b < B → w1.frozen? ⟨b, o, none⟩ = W.frozen? ⟨b, o, none⟩) :=
  ⟨fun b o h => hb.cell (p := ⟨b, o, none⟩) h, fun b o h => hb.frozen (p := ⟨b, o, none⟩) h⟩

set_option maxHeartbeats 1000000 in
theorem both_yes (A A' : Option Addr) (n c n' c' : Nat) (xs ys : List Int) (w : World) (hr : RI w w.heap.size A n xs) (hr' : RI w w.heap.size A' n' ys) (hn : n ≤ maxLen) (hn' : n' ≤ maxLen) (hx : rightB xs = true) (hy : rightB ys = true) :
    Calls Tryd.prog 17 #[.slice A n c, .slice A' n' c'] w fun e w' =>
      (∃ a0 a1 a2 a3 b0 b1 b2 b3 : Nat, Four (inB xs) a0 a1 a2 a3 ∧ Four (inB ys) b0 b1 b2 b3 ∧ e = .returned (.tuple #[.agg #[.int .u64 a0, .int .u64 a1, .int .u64 a2, .int .u64 a3], .agg #[.int .u64 b0, .int .u64 b1, .int .u64 b2, .int .u64 b3], .bool true])) ∧ Below w.heap.size w w' := by
  have HX := Lib.hid hx
  have HY := Lib.hid hy
  clear hx hy
  go_enter Tryd.func17, Tryd.ntmps17
  go_wp2_with fail
  have hb0 : Below w.heap.size w ((w.alloc (.cells #[.int .u64 0, .int .u64 0, .int .u64 0, .int .u64 0] 44)).alloc (.cells #[.int .u64 0, .int .u64 0, .int .u64 0, .int .u64 0] 44)) := by go_grown
  refine (pack_any _ _ _ xs _ ((hr.below hb0).more hb0.size) hn).mono ?_
  rintro e w1 ⟨⟨a0, a1, a2, a3, ha, rfl⟩, hb1⟩
  have HA := Lib.hid ha
  clear ha
  rw [HX.out]
  obtain ⟨hc1, hf1⟩ := bcell hb1
  have hz1 : w.heap.size + 1 + 1 ≤ w1.heap.size := by have := hb1.size; simp at this; omega
  have hz2 : w.heap.size + 1 < w1.heap.size := by omega
  have hz2' : w.heap.size < w1.heap.size := by omega
  simp only [World.size_alloc] at hc1 hf1
  go_wp2_with fail
  have hb2 : Below w.heap.size w (w1.alloc (.cells #[.int .u64 a0, .int .u64 a1, .int .u64 a2, .int .u64 a3] 44)) := (hb0.trans (hb1.mono (by simp; omega))).alloc (by omega) _
  refine (pack_any _ _ _ ys _ ((hr'.below hb2).more hb2.size) hn').mono ?_
  rintro e w2 ⟨⟨b0, b1, b2, b3, hb, rfl⟩, hb3⟩
  have HB := Lib.hid hb
  clear hb
  rw [HY.out]
  obtain ⟨hc3, hf3⟩ := bcell hb3
  have hz3 : w1.heap.size + 1 ≤ w2.heap.size := by have := hb3.size; simp at this; omega
  simp only [World.size_alloc] at hc3 hf3
  have hz4 : w1.heap.size < w2.heap.size := by omega
  have hz5 : w.heap.size + 1 < w2.heap.size := by omega
  have hz6 : w.heap.size < w2.heap.size := by omega
  have hz7 : w.heap.size < w1.heap.size + 1 := by omega
  have hz8 : w.heap.size + 1 < w1.heap.size + 1 := by omega
  have hb4 : Below w.heap.size w (w2.alloc (.cells #[.int .u64 b0, .int .u64 b1, .int .u64 b2, .int .u64 b3] 44)) := (hb2.trans (hb3.mono (by simp; omega))).alloc (by omega) _
  have cx0 : (w2.alloc (.cells #[.int .u64 b0, .int .u64 b1, .int .u64 b2, .int .u64 b3] 44)).cell? ⟨w1.heap.size, 0, none⟩ = some (.int .u64 a0) := by go_simp
  have cx1 : (w2.alloc (.cells #[.int .u64 b0, .int .u64 b1, .int .u64 b2, .int .u64 b3] 44)).cell? ⟨w1.heap.size, 1, none⟩ = some (.int .u64 a1) := by go_simp
  have cx2 : (w2.alloc (.cells #[.int .u64 b0, .int .u64 b1, .int .u64 b2, .int .u64 b3] 44)).cell? ⟨w1.heap.size, 2, none⟩ = some (.int .u64 a2) := by go_simp
  have cx3 : (w2.alloc (.cells #[.int .u64 b0, .int .u64 b1, .int .u64 b2, .int .u64 b3] 44)).cell? ⟨w1.heap.size, 3, none⟩ = some (.int .u64 a3) := by go_simp
  have cy0 : (w2.alloc (.cells #[.int .u64 b0, .int .u64 b1, .int .u64 b2, .int .u64 b3] 44)).cell? ⟨w2.heap.size, 0, none⟩ = some (.int .u64 b0) := by go_simp
  have cy1 : (w2.alloc (.cells #[.int .u64 b0, .int .u64 b1, .int .u64 b2, .int .u64 b3] 44)).cell? ⟨w2.heap.size, 1, none⟩ = some (.int .u64 b1) := by go_simp
  have cy2 : (w2.alloc (.cells #[.int .u64 b0, .int .u64 b1, .int .u64 b2, .int .u64 b3] 44)).cell? ⟨w2.heap.size, 2, none⟩ = some (.int .u64 b2) := by go_simp
  have cy3 : (w2.alloc (.cells #[.int .u64 b0, .int .u64 b1, .int .u64 b2, .int .u64 b3] 44)).cell? ⟨w2.heap.size, 3, none⟩ = some (.int .u64 b3) := by go_simp
  have cr0 : (w2.alloc (.cells #[.int .u64 b0, .int .u64 b1, .int .u64 b2, .int .u64 b3] 44)).cell? ⟨w.heap.size, 0, none⟩ = some (.int .u64 0) := by go_simp
  have fr0 : (w2.alloc (.cells #[.int .u64 b0, .int .u64 b1, .int .u64 b2, .int .u64 b3] 44)).frozen? ⟨w.heap.size, 0, none⟩ = false := by go_simp
  have cr1 : (w2.alloc (.cells #[.int .u64 b0, .int .u64 b1, .int .u64 b2, .int .u64 b3] 44)).cell? ⟨w.heap.size, 1, none⟩ = some (.int .u64 0) := by go_simp
  have fr1 : (w2.alloc (.cells #[.int .u64 b0, .int .u64 b1, .int .u64 b2, .int .u64 b3] 44)).frozen? ⟨w.heap.size, 1, none⟩ = false := by go_simp
  have cr2 : (w2.alloc (.cells #[.int .u64 b0, .int .u64 b1, .int .u64 b2, .int .u64 b3] 44)).cell? ⟨w.heap.size, 2, none⟩ = some (.int .u64 0) := by go_simp
  have fr2 : (w2.alloc (.cells #[.int .u64 b0, .int .u64 b1, .int .u64 b2, .int .u64 b3] 44)).frozen? ⟨w.heap.size, 2, none⟩ = false := by go_simp
  have cr3 : (w2.alloc (.cells #[.int .u64 b0, .int .u64 b1, .int .u64 b2, .int .u64 b3] 44)).cell? ⟨w.heap.size, 3, none⟩ = some (.int .u64 0) := by go_simp
  have fr3 : (w2.alloc (.cells #[.int .u64 b0, .int .u64 b1, .int .u64 b2, .int .u64 b3] 44)).frozen? ⟨w.heap.size, 3, none⟩ = false := by go_simp
  have cs0 : (w2.alloc (.cells #[.int .u64 b0, .int .u64 b1, .int .u64 b2, .int .u64 b3] 44)).cell? ⟨w.heap.size + 1, 0, none⟩ = some (.int .u64 0) := by go_simp
  have fs0 : (w2.alloc (.cells #[.int .u64 b0, .int .u64 b1, .int .u64 b2, .int .u64 b3] 44)).frozen? ⟨w.heap.size + 1, 0, none⟩ = false := by go_simp
  have cs1 : (w2.alloc (.cells #[.int .u64 b0, .int .u64 b1, .int .u64 b2, .int .u64 b3] 44)).cell? ⟨w.heap.size + 1, 1, none⟩ = some (.int .u64 0) := by go_simp
  have fs1 : (w2.alloc (.cells #[.int .u64 b0, .int .u64 b1, .int .u64 b2, .int .u64 b3] 44)).frozen? ⟨w.heap.size + 1, 1, none⟩ = false := by go_simp
  have cs2 : (w2.alloc (.cells #[.int .u64 b0, .int .u64 b1, .int .u64 b2, .int .u64 b3] 44)).cell? ⟨w.heap.size + 1, 2, none⟩ = some (.int .u64 0) := by go_simp
  have fs2 : (w2.alloc (.cells #[.int .u64 b0, .int .u64 b1, .int .u64 b2, .int .u64 b3] 44)).frozen? ⟨w.heap.size + 1, 2, none⟩ = false := by go_simp
  have cs3 : (w2.alloc (.cells #[.int .u64 b0, .int .u64 b1, .int .u64 b2, .int .u64 b3] 44)).cell? ⟨w.heap.size + 1, 3, none⟩ = some (.int .u64 0) := by go_simp
  have fs3 : (w2.alloc (.cells #[.int .u64 b0, .int .u64 b1, .int .u64 b2, .int .u64 b3] 44)).frozen? ⟨w.heap.size + 1, 3, none⟩ = false := by go_simp
  have hsz : w.heap.size + 1 < (w2.alloc (.cells #[.int .u64 b0, .int .u64 b1, .int .u64 b2, .int .u64 b3] 44)).heap.size := by simp; omega
  clear hr hr' hb0 hb1 hb2 hb3 hz1 hz3
  go_wp2
  clear hc1 hf1 hc3 hf3
  generalize (w2.alloc (.cells #[.int .u64 b0, .int .u64 b1, .int .u64 b2, .int .u64 b3] 44)) = W at *
  generalize hB : w.heap.size = B at *
  have HBB := Lib.hid hB
  clear hB
  generalize w1.heap.size = p at *
  generalize w2.heap.size = q at *
  go_region
  all_goals go_wp2
  all_goals
    refine bodyPost_ret (v := .tuple #[.agg #[.int .u64 a0, .int .u64 a1, .int .u64 a2, .int .u64 a3], .agg #[.int .u64 b0, .int .u64 b1, .int .u64 b2, .int .u64 b3], .bool true]) (by simp [results, Tryd.results17, go_sem, *]) rfl ⟨⟨a0, a1, a2, a3, b0, b1, b2, b3, HA.out HX.out, HB.out HY.out, rfl⟩, ?_⟩
    rw [HBB.out]
    go_grown

set_option maxHeartbeats 1000000 in
theorem both_no (A A' : Option Addr) (n c n' c' : Nat) (xs ys : List Int) (w : World) (hr : RI w w.heap.size A n xs) (hr' : RI w w.heap.size A' n' ys) (hn : n ≤ maxLen) (hn' : n' ≤ maxLen) (hxy : (rightB xs && rightB ys) = false) :
    Calls Tryd.prog 17 #[.slice A n c, .slice A' n' c'] w fun e w' =>
      e = .returned (.tuple #[.agg #[.int .u64 0, .int .u64 0, .int .u64 0, .int .u64 0], .agg #[.int .u64 0, .int .u64 0, .int .u64 0, .int .u64 0], .bool false]) ∧ Below w.heap.size w w' := by
  have HXY := Lib.hid hxy
  clear hxy
  obtain ⟨X, hX⟩ : ∃ X, rightB xs = X := ⟨_, rfl⟩
  obtain ⟨Y, hY⟩ : ∃ Y, rightB ys = Y := ⟨_, rfl⟩
  have HX := Lib.hid hX
  have HY := Lib.hid hY
  have HZ : Hid ((X && Y) = false) := Lib.hid (by rw [← hX, ← hY]; exact HXY.out)
  clear hX hY
  go_enter Tryd.func17, Tryd.ntmps17
  go_wp2_with fail
  have hb0 : Below w.heap.size w ((w.alloc (.cells #[.int .u64 0, .int .u64 0, .int .u64 0, .int .u64 0] 44)).alloc (.cells #[.int .u64 0, .int .u64 0, .int .u64 0, .int .u64 0] 44)) := by go_grown
  refine (pack_any _ _ _ xs _ ((hr.below hb0).more hb0.size) hn).mono ?_
  rintro e w1 ⟨⟨a0, a1, a2, a3, ha, rfl⟩, hb1⟩
  have HA := Lib.hid ha
  clear ha
  rw [HX.out]
  obtain ⟨hc1, hf1⟩ := bcell hb1
  have hz1 : w.heap.size + 1 + 1 ≤ w1.heap.size := by have := hb1.size; simp at this; omega
  have hz2 : w.heap.size + 1 < w1.heap.size := by omega
  have hz2' : w.heap.size < w1.heap.size := by omega
  simp only [World.size_alloc] at hc1 hf1
  go_wp2_with fail
  have hb2 : Below w.heap.size w (w1.alloc (.cells #[.int .u64 a0, .int .u64 a1, .int .u64 a2, .int .u64 a3] 44)) := (hb0.trans (hb1.mono (by simp; omega))).alloc (by omega) _
  refine (pack_any _ _ _ ys _ ((hr'.below hb2).more hb2.size) hn').mono ?_
  rintro e w2 ⟨⟨b0, b1, b2, b3, hb, rfl⟩, hb3⟩
  have HB := Lib.hid hb
  clear hb
  rw [HY.out]
  obtain ⟨hc3, hf3⟩ := bcell hb3
  have hz3 : w1.heap.size + 1 ≤ w2.heap.size := by have := hb3.size; simp at this; omega
  simp only [World.size_alloc] at hc3 hf3
  have hz4 : w1.heap.size < w2.heap.size := by omega
  have hz5 : w.heap.size + 1 < w2.heap.size := by omega
  have hz6 : w.heap.size < w2.heap.size := by omega
  have hz7 : w.heap.size < w1.heap.size + 1 := by omega
  have hz8 : w.heap.size + 1 < w1.heap.size + 1 := by omega
  have hb4 : Below w.heap.size w (w2.alloc (.cells #[.int .u64 b0, .int .u64 b1, .int .u64 b2, .int .u64 b3] 44)) := (hb2.trans (hb3.mono (by simp; omega))).alloc (by omega) _
  have cx0 : (w2.alloc (.cells #[.int .u64 b0, .int .u64 b1, .int .u64 b2, .int .u64 b3] 44)).cell? ⟨w1.heap.size, 0, none⟩ = some (.int .u64 a0) := by go_simp
  have cx1 : (w2.alloc (.cells #[.int .u64 b0, .int .u64 b1, .int .u64 b2, .int .u64 b3] 44)).cell? ⟨w1.heap.size, 1, none⟩ = some (.int .u64 a1) := by go_simp
  have cx2 : (w2.alloc (.cells #[.int .u64 b0, .int .u64 b1, .int .u64 b2, .int .u64 b3] 44)).cell? ⟨w1.heap.size, 2, none⟩ = some (.int .u64 a2) := by go_simp
  have cx3 : (w2.alloc (.cells #[.int .u64 b0, .int .u64 b1, .int .u64 b2, .int .u64 b3] 44)).cell? ⟨w1.heap.size, 3, none⟩ = some (.int .u64 a3) := by go_simp
  have cy0 : (w2.alloc (.cells #[.int .u64 b0, .int .u64 b1, .int .u64 b2, .int .u64 b3] 44)).cell? ⟨w2.heap.size, 0, none⟩ = some (.int .u64 b0) := by go_simp
  have cy1 : (w2.alloc (.cells #[.int .u64 b0, .int .u64 b1, .int .u64 b2, .int .u64 b3] 44)).cell? ⟨w2.heap.size, 1, none⟩ = some (.int .u64 b1) := by go_simp
  have cy2 : (w2.alloc (.cells #[.int .u64 b0, .int .u64 b1, .int .u64 b2, .int .u64 b3] 44)).cell? ⟨w2.heap.size, 2, none⟩ = some (.int .u64 b2) := by go_simp
  have cy3 : (w2.alloc (.cells #[.int .u64 b0, .int .u64 b1, .int .u64 b2, .int .u64 b3] 44)).cell? ⟨w2.heap.size, 3, none⟩ = some (.int .u64 b3) := by go_simp
  have cr0 : (w2.alloc (.cells #[.int .u64 b0, .int .u64 b1, .int .u64 b2, .int .u64 b3] 44)).cell? ⟨w.heap.size, 0, none⟩ = some (.int .u64 0) := by go_simp
  have fr0 : (w2.alloc (.cells #[.int .u64 b0, .int .u64 b1, .int .u64 b2, .int .u64 b3] 44)).frozen? ⟨w.heap.size, 0, none⟩ = false := by go_simp
  have cr1 : (w2.alloc (.cells #[.int .u64 b0, .int .u64 b1, .int .u64 b2, .int .u64 b3] 44)).cell? ⟨w.heap.size, 1, none⟩ = some (.int .u64 0) := by go_simp
  have fr1 : (w2.alloc (.cells #[.int .u64 b0, .int .u64 b1, .int .u64 b2, .int .u64 b3] 44)).frozen? ⟨w.heap.size, 1, none⟩ = false := by go_simp
  have cr2 : (w2.alloc (.cells #[.int .u64 b0, .int .u64 b1, .int .u64 b2, .int .u64 b3] 44)).cell? ⟨w.heap.size, 2, none⟩ = some (.int .u64 0) := by go_simp
  have fr2 : (w2.alloc (.cells #[.int .u64 b0, .int .u64 b1, .int .u64 b2, .int .u64 b3] 44)).frozen? ⟨w.heap.size, 2, none⟩ = false := by go_simp
  have cr3 : (w2.alloc (.cells #[.int .u64 b0, .int .u64 b1, .int .u64 b2, .int .u64 b3] 44)).cell? ⟨w.heap.size, 3, none⟩ = some (.int .u64 0) := by go_simp
  have fr3 : (w2.alloc (.cells #[.int .u64 b0, .int .u64 b1, .int .u64 b2, .int .u64 b3] 44)).frozen? ⟨w.heap.size, 3, none⟩ = false := by go_simp
  have cs0 : (w2.alloc (.cells #[.int .u64 b0, .int .u64 b1, .int .u64 b2, .int .u64 b3] 44)).cell? ⟨w.heap.size + 1, 0, none⟩ = some (.int .u64 0) := by go_simp
  have fs0 : (w2.alloc (.cells #[.int .u64 b0, .int .u64 b1, .int .u64 b2, .int .u64 b3] 44)).frozen? ⟨w.heap.size + 1, 0, none⟩ = false := by go_simp
  have cs1 : (w2.alloc (.cells #[.int .u64 b0, .int .u64 b1, .int .u64 b2, .int .u64 b3] 44)).cell? ⟨w.heap.size + 1, 1, none⟩ = some (.int .u64 0) := by go_simp
  have fs1 : (w2.alloc (.cells #[.int .u64 b0, .int .u64 b1, .int .u64 b2, .int .u64 b3] 44)).frozen? ⟨w.heap.size + 1, 1, none⟩ = false := by go_simp
  have cs2 : (w2.alloc (.cells #[.int .u64 b0, .int .u64 b1, .int .u64 b2, .int .u64 b3] 44)).cell? ⟨w.heap.size + 1, 2, none⟩ = some (.int .u64 0) := by go_simp
  have fs2 : (w2.alloc (.cells #[.int .u64 b0, .int .u64 b1, .int .u64 b2, .int .u64 b3] 44)).frozen? ⟨w.heap.size + 1, 2, none⟩ = false := by go_simp
  have cs3 : (w2.alloc (.cells #[.int .u64 b0, .int .u64 b1, .int .u64 b2, .int .u64 b3] 44)).cell? ⟨w.heap.size + 1, 3, none⟩ = some (.int .u64 0) := by go_simp
  have fs3 : (w2.alloc (.cells #[.int .u64 b0, .int .u64 b1, .int .u64 b2, .int .u64 b3] 44)).frozen? ⟨w.heap.size + 1, 3, none⟩ = false := by go_simp
  have hsz : w.heap.size + 1 < (w2.alloc (.cells #[.int .u64 b0, .int .u64 b1, .int .u64 b2, .int .u64 b3] 44)).heap.size := by simp; omega
  clear hr hr' hb0 hb1 hb2 hb3 hz1 hz3
  cases X with
  | false =>
    go_upto_region 4 with (fail)
    clear hc1 hf1 hc3 hf3
    generalize (w2.alloc (.cells #[.int .u64 b0, .int .u64 b1, .int .u64 b2, .int .u64 b3] 44)) = W at *
    generalize hB : w.heap.size = B at *
    have HBB := Lib.hid hB
    clear hB
    generalize w1.heap.size = p at *
    generalize w2.heap.size = q at *
    go_wp2
    refine bodyPost_ret (v := .tuple #[.agg #[.int .u64 0, .int .u64 0, .int .u64 0, .int .u64 0], .agg #[.int .u64 0, .int .u64 0, .int .u64 0, .int .u64 0], .bool false]) (by simp [results, Tryd.results17, go_sem, *]) rfl ⟨rfl, ?_⟩
    rw [HBB.out]
    go_grown
  | true =>
    have hY : Y = false := by simpa using HZ.out
    subst hY
    go_upto_region 4 with (fail)
    clear hc1 hf1 hc3 hf3
    generalize (w2.alloc (.cells #[.int .u64 b0, .int .u64 b1, .int .u64 b2, .int .u64 b3] 44)) = W at *
    generalize hB : w.heap.size = B at *
    have HBB := Lib.hid hB
    clear hB
    generalize w1.heap.size = p at *
    generalize w2.heap.size = q at *
    go_wp2
    refine bodyPost_ret (v := .tuple #[.agg #[.int .u64 0, .int .u64 0, .int .u64 0, .int .u64 0], .agg #[.int .u64 0, .int .u64 0, .int .u64 0, .int .u64 0], .bool false]) (by simp [results, Tryd.results17, go_sem, *]) rfl ⟨rfl, ?_⟩
    rw [HBB.out]
    go_grown

end Go.Proofs.YtbiofikijehlcaaDoor

namespace Go.Proofs.YtbiofikijehlcaaDoor
open Go.RowKit
open Go.Shelf
attribute [local go_sem] alloc_drewN setCell_drewN

/-- 'a slice that holds these numbers, in new memory', kept from the walk -/
def Gives (l : List Int) (w : World) (e : Ending) (w' : World) : Prop :=
  (∃ A c, l.length ≤ c ∧ e = .returned (.slice A l.length c) ∧ RI w' w'.heap.size A l.length l) ∧ Below w.heap.size w w'
theorem gives_of_own {l : List Int} {w w' : World} {B : Nat} {v : Value} (h : w'.ownsRow B 3 1 v l.length (l.map (Value.int .i64))) (hb : Below w.heap.size w w') : Gives l w (.returned v) w' := by
  rcases h.2 with ⟨hv, h0⟩ | ⟨g, cap, cur, hv, _, _, hcap, _⟩
  · subst hv
    have hl : l = [] := List.eq_nil_of_length_eq_zero h0
    subst hl
    exact ⟨⟨none, 0, Nat.le_refl _, rfl, RI.nil⟩, hb⟩
  · subst hv
    exact ⟨⟨_, _, hcap, rfl, RI.of_own h⟩, hb⟩

theorem IPost.gives {l : List Int} {w w' : World} {e : Ending} (h : IPost l w e w') : Gives l w e w' := by
  obtain ⟨⟨A, c, h1, h2, _, h4⟩, hb⟩ := h
  exact ⟨⟨A, c, h4, h1, h2⟩, hb⟩
theorem four_or {p q : Int → Bool} {a0 a1 a2 a3 b0 b1 b2 b3 : Nat} (h : Four p a0 a1 a2 a3) (k : Four q b0 b1 b2 b3) : Four (fun n => p n || q n) (a0 ||| b0) (a1 ||| b1) (a2 ||| b2) (a3 ||| b3) := by
  obtain ⟨rfl, rfl, rfl, rfl⟩ := h
  obtain ⟨rfl, rfl, rfl, rfl⟩ := k
  exact ⟨wordOf_or _ _ _, wordOf_or _ _ _, wordOf_or _ _ _, wordOf_or _ _ _⟩
theorem four_and {p q : Int → Bool} {a0 a1 a2 a3 b0 b1 b2 b3 : Nat} (h : Four p a0 a1 a2 a3) (k : Four q b0 b1 b2 b3) : Four (fun n => p n && q n) (a0 &&& b0) (a1 &&& b1) (a2 &&& b2) (a3 &&& b3) := by
  obtain ⟨rfl, rfl, rfl, rfl⟩ := h
  obtain ⟨rfl, rfl, rfl, rfl⟩ := k
  exact ⟨wordOf_and _ _ _, wordOf_and _ _ _, wordOf_and _ _ _, wordOf_and _ _ _⟩
theorem four_less {p q : Int → Bool} {a0 a1 a2 a3 b0 b1 b2 b3 : Nat} (h : Four p a0 a1 a2 a3) (k : Four q b0 b1 b2 b3) : Four (fun n => p n && !q n) (a0 &&& neg64 b0) (a1 &&& neg64 b1) (a2 &&& neg64 b2) (a3 &&& neg64 b3) := by
  obtain ⟨rfl, rfl, rfl, rfl⟩ := h
  obtain ⟨rfl, rfl, rfl, rfl⟩ := k
  exact ⟨wordOf_andNot _ _ _, wordOf_andNot _ _ _, wordOf_andNot _ _ _, wordOf_andNot _ _ _⟩

theorem joinL_pick {xs ys : List Int} (hx : rightB xs = true) (hy : rightB ys = true) : pickL (fun n => inB xs n || inB ys n) = joinL xs ys := by
  unfold joinL whichL
  rw [hx, hy]
  rfl

set_option maxHeartbeats 1000000 in
theorem join_post (A A' : Option Addr) (n c n' c' : Nat) (xs ys : List Int) (w : World) (hr : RI w w.heap.size A n xs) (hr' : RI w w.heap.size A' n' ys) (hn : n ≤ maxLen) (hn' : n' ≤ maxLen)
    (hT : TabAt 0 Lib.deBruijn64tab w) (hB : 0 < w.heap.size) :
    Calls Tryd.prog 11 #[.slice A n c, .slice A' n' c'] w (IPost (joinL xs ys) w) := by
  have HT := Lib.hid hT
  clear hT
  by_cases hxy : (rightB xs && rightB ys) = true
  · have hx : Hid (rightB xs = true) := Lib.hid (by simp at hxy; exact hxy.1)
    have hy : Hid (rightB ys = true) := Lib.hid (by simp at hxy; exact hxy.2)
    clear hxy
    go_enter Tryd.func11, Tryd.ntmps11
    go_wp2_with fail
    refine (both_yes _ _ _ _ _ _ xs ys _ hr hr' hn hn' hx.out hy.out).mono ?_
    rintro e w1 ⟨⟨a0, a1, a2, a3, b0, b1, b2, b3, ha, hb, rfl⟩, hb1⟩
    have HA := Lib.hid ha
    have HBB := Lib.hid hb
    obtain ⟨ua0, ua1, ua2, ua3⟩ := four_lt ha
    obtain ⟨ub0, ub1, ub2, ub3⟩ := four_lt hb
    clear ha hb hr hr'
    have hz := hb1.size
    go_wp2_with fail
    refine (wjoin_any a0 a1 a2 a3 b0 b1 b2 b3 _ ua0 ua1 ua2 ua3 ub0 ub1 ub2 ub3).mono ?_
    rintro e w2 ⟨rfl, hb2⟩
    have hb3 : Below w.heap.size w w2 := ((hb1.alloc (by omega) _).alloc (by simp; omega) _).trans (hb2.mono (by simp; omega))
    have hz3 := hb3.size
    go_wp2_with fail
    refine (list_any _ _ _ _ _ (four_or HA.out HBB.out) _ (tab_below HT.out hb3 hB) (by omega)).mono ?_
    rintro e w3 ⟨⟨v, rfl, hown⟩, hb4⟩
    have HO := Lib.hid hown
    clear hown
    go_wp2
    go_ret
    have h := HO.out
    rw [joinL_pick hx.out hy.out] at h
    exact ipost_own h (hb3.trans (hb4.mono hz3))
  · have hno : (rightB xs && rightB ys) = false := by simpa using hxy
    have HL : Hid (joinL xs ys = []) := Lib.hid (whichL_wrong hno)
    have HN := Lib.hid hno
    clear hxy hno
    go_enter Tryd.func11, Tryd.ntmps11
    go_wp2_with fail
    refine (both_no _ _ _ _ _ _ xs ys _ hr hr' hn hn' HN.out).mono ?_
    rintro e w1 ⟨rfl, hb1⟩
    have hz := hb1.size
    clear hr hr'
    go_wp2
    go_ret
    rw [HL.out]
    exact ipost_nil ((hb1.alloc (by omega) _).alloc (by simp; omega) _)

theorem meetL_pick {xs ys : List Int} (hx : rightB xs = true) (hy : rightB ys = true) : pickL (fun n => inB xs n && inB ys n) = meetL xs ys := by
  unfold meetL whichL
  rw [hx, hy]
  rfl


theorem lessL_pick {xs ys : List Int} (hx : rightB xs = true) (hy : rightB ys = true) : pickL (fun n => inB xs n && !inB ys n) = lessL xs ys := by
  unfold lessL whichL
  rw [hx, hy]
  rfl


theorem join_ops (A A' : Option Addr) (n c n' c' : Nat) (xs ys : List Int) (w : World) (hr : RI w w.heap.size A n xs) (hr' : RI w w.heap.size A' n' ys) (hn : n ≤ maxLen) (hn' : n' ≤ maxLen)
    (hT : TabAt 0 Lib.deBruijn64tab w) (hB : 0 < w.heap.size) :
    Calls Tryd.prog 11 #[.slice A n c, .slice A' n' c'] w (Gives (joinL xs ys) w) := (join_post A A' n c n' c' xs ys w hr hr' hn hn' hT hB).mono fun _ _ h => h.gives

end Go.Proofs.YtbiofikijehlcaaDoor

namespace Go.Proofs.YtbiofikijehlcaaDoor
open Go.RowKit
open Go.Shelf
attribute [local go_sem] alloc_drewN setCell_drewN

theorem four_zero {p : Int → Bool} {a0 a1 a2 a3 : Nat} (h : Four p a0 a1 a2 a3) : decide (a0 = 0 ∧ a1 = 0 ∧ a2 = 0 ∧ a3 = 0) = true ↔ ∀ n : Int, 0 ≤ n → n ≤ 255 → p n = false := by
  obtain ⟨rfl, rfl, rfl, rfl⟩ := h
  rw [decide_eq_true_eq]
  constructor
  · rintro ⟨h0, h1, h2, h3⟩ n g0 g1
    have hk : n / 64 = 0 ∨ n / 64 = 1 ∨ n / 64 = 2 ∨ n / 64 = 3 := by omega
    rcases hk with hk | hk | hk | hk
    · have := bitsTo_zero.1 h0 (n - 0).toNat (by omega)
      have e : ((64 * 0 + (n - 0).toNat : Nat) : Int) = n := by omega
      rwa [e] at this
    · have := bitsTo_zero.1 h1 (n - 64).toNat (by omega)
      have e : ((64 * 1 + (n - 64).toNat : Nat) : Int) = n := by omega
      rwa [e] at this
    · have := bitsTo_zero.1 h2 (n - 128).toNat (by omega)
      have e : ((64 * 2 + (n - 128).toNat : Nat) : Int) = n := by omega
      rwa [e] at this
    · have := bitsTo_zero.1 h3 (n - 192).toNat (by omega)
      have e : ((64 * 3 + (n - 192).toNat : Nat) : Int) = n := by omega
      rwa [e] at this
  · intro h
    exact ⟨bitsTo_zero.2 fun j hj => h _ (by omega) (by omega), bitsTo_zero.2 fun j hj => h _ (by omega) (by omega), bitsTo_zero.2 fun j hj => h _ (by omega) (by omega), bitsTo_zero.2 fun j hj => h _ (by omega) (by omega)⟩
theorem part_four {xs ys : List Int} (hx : rightB xs = true) (hy : rightB ys = true) {a0 a1 a2 a3 : Nat} (h : Four (fun n => inB xs n && !inB ys n) a0 a1 a2 a3) : decide (a0 = 0 ∧ a1 = 0 ∧ a2 = 0 ∧ a3 = 0) = partB xs ys := by
  rw [Bool.eq_iff_iff, four_zero h]
  unfold partB
  rw [hx, hy]
  simp only [Bool.and_self, Bool.true_and, List.all_eq_true]
  constructor
  · intro h n hn
    have := right_mem hx n hn
    have h2 := h n this.1 this.2
    have h3 : inB xs n = true := List.contains_iff_mem.2 hn
    rw [h3] at h2
    simpa [inB] using h2
  · intro h n _ _
    cases h3 : inB xs n with
    | false => rfl
    | true => have := h n (List.contains_iff_mem.1 h3); simpa [inB] using this
theorem apart_four {xs ys : List Int} (hx : rightB xs = true) (hy : rightB ys = true) {a0 a1 a2 a3 : Nat} (h : Four (fun n => inB xs n && inB ys n) a0 a1 a2 a3) : decide (a0 = 0 ∧ a1 = 0 ∧ a2 = 0 ∧ a3 = 0) = apartB xs ys := by
  rw [Bool.eq_iff_iff, four_zero h]
  unfold apartB
  rw [hx, hy]
  simp only [Bool.and_self, Bool.true_and, List.all_eq_true]
  constructor
  · intro h n hn
    have := right_mem hx n hn
    have h2 := h n this.1 this.2
    have h3 : inB xs n = true := List.contains_iff_mem.2 hn
    rw [h3] at h2
    simpa [inB] using h2
  · intro h n _ _
    cases h3 : inB xs n with
    | false => rfl
    | true => have := h n (List.contains_iff_mem.1 h3); simpa [inB] using this

set_option maxHeartbeats 1000000 in
theorem part_any (A A' : Option Addr) (n c n' c' : Nat) (xs ys : List Int) (w : World) (hr : RI w w.heap.size A n xs) (hr' : RI w w.heap.size A' n' ys) (hn : n ≤ maxLen) (hn' : n' ≤ maxLen) :
    Calls Tryd.prog 8 #[.slice A n c, .slice A' n' c'] w fun e w' => e = .returned (.bool (partB xs ys)) ∧ Below w.heap.size w w' := by
  by_cases hxy : (rightB xs && rightB ys) = true
  · have hx : Hid (rightB xs = true) := Lib.hid (by simp at hxy; exact hxy.1)
    have hy : Hid (rightB ys = true) := Lib.hid (by simp at hxy; exact hxy.2)
    clear hxy
    go_enter Tryd.func8, Tryd.ntmps8
    go_wp2_with fail
    refine (both_yes _ _ _ _ _ _ xs ys _ hr hr' hn hn' hx.out hy.out).mono ?_
    rintro e w1 ⟨⟨a0, a1, a2, a3, b0, b1, b2, b3, ha, hb, rfl⟩, hb1⟩
    have HA := Lib.hid ha
    have HBB := Lib.hid hb
    obtain ⟨ua0, ua1, ua2, ua3⟩ := four_lt ha
    obtain ⟨ub0, ub1, ub2, ub3⟩ := four_lt hb
    have HZ := Lib.hid (part_four hx.out hy.out (four_less ha hb))
    clear ha hb hr hr'
    have hz := hb1.size
    go_wp2_with fail
    refine (wless_any a0 a1 a2 a3 b0 b1 b2 b3 _ ua0 ua1 ua2 ua3 ub0 ub1 ub2 ub3).mono ?_
    rintro e w2 ⟨rfl, hb2⟩
    have hb3 : Below w.heap.size w w2 := ((hb1.alloc (by omega) _).alloc (by simp; omega) _).trans (hb2.mono (by simp; omega))
    have hz3 := hb3.size
    go_wp2_with fail
    refine (empty_any _ _ _ _ _).mono ?_
    rintro e w3 ⟨rfl, hb4⟩
    rw [HZ.out]
    generalize hzz : partB xs ys = z at *
    have HZZ := Lib.hid hzz
    clear hzz
    go_wp2
    go_ret
    exact ⟨ret_bool HZZ.out, hb3.trans (hb4.mono hz3)⟩
  · have hno : (rightB xs && rightB ys) = false := by simpa using hxy
    have HL : Hid (partB xs ys = false) := Lib.hid (by unfold partB; rw [hno]; rfl)
    have HN := Lib.hid hno
    clear hxy hno
    go_enter Tryd.func8, Tryd.ntmps8
    go_wp2_with fail
    refine (both_no _ _ _ _ _ _ xs ys _ hr hr' hn hn' HN.out).mono ?_
    rintro e w1 ⟨rfl, hb1⟩
    have hz := hb1.size
    clear hr hr'
    go_wp2
    go_ret
    exact ⟨ret_bool HL.out, (hb1.alloc (by omega) _).alloc (by simp; omega) _⟩

set_option maxHeartbeats 1000000 in
theorem apart_any (A A' : Option Addr) (n c n' c' : Nat) (xs ys : List Int) (w : World) (hr : RI w w.heap.size A n xs) (hr' : RI w w.heap.size A' n' ys) (hn : n ≤ maxLen) (hn' : n' ≤ maxLen) :
    Calls Tryd.prog 25 #[.slice A n c, .slice A' n' c'] w fun e w' => e = .returned (.bool (apartB xs ys)) ∧ Below w.heap.size w w' := by
  by_cases hxy : (rightB xs && rightB ys) = true
  · have hx : Hid (rightB xs = true) := Lib.hid (by simp at hxy; exact hxy.1)
    have hy : Hid (rightB ys = true) := Lib.hid (by simp at hxy; exact hxy.2)
    clear hxy
    go_enter Tryd.func25, Tryd.ntmps25
    go_wp2_with fail
    refine (both_yes _ _ _ _ _ _ xs ys _ hr hr' hn hn' hx.out hy.out).mono ?_
    rintro e w1 ⟨⟨a0, a1, a2, a3, b0, b1, b2, b3, ha, hb, rfl⟩, hb1⟩
    have HA := Lib.hid ha
    have HBB := Lib.hid hb
    obtain ⟨ua0, ua1, ua2, ua3⟩ := four_lt ha
    obtain ⟨ub0, ub1, ub2, ub3⟩ := four_lt hb
    have HZ := Lib.hid (apart_four hx.out hy.out (four_and ha hb))
    clear ha hb hr hr'
    have hz := hb1.size
    go_wp2_with fail
    refine (wmeet_any a0 a1 a2 a3 b0 b1 b2 b3 _ ua0 ua1 ua2 ua3 ub0 ub1 ub2 ub3).mono ?_
    rintro e w2 ⟨rfl, hb2⟩
    have hb3 : Below w.heap.size w w2 := ((hb1.alloc (by omega) _).alloc (by simp; omega) _).trans (hb2.mono (by simp; omega))
    have hz3 := hb3.size
    go_wp2_with fail
    refine (empty_any _ _ _ _ _).mono ?_
    rintro e w3 ⟨rfl, hb4⟩
    rw [HZ.out]
    generalize hzz : apartB xs ys = z at *
    have HZZ := Lib.hid hzz
    clear hzz
    go_wp2
    go_ret
    exact ⟨ret_bool HZZ.out, hb3.trans (hb4.mono hz3)⟩
  · have hno : (rightB xs && rightB ys) = false := by simpa using hxy
    have HL : Hid (apartB xs ys = false) := Lib.hid (by unfold apartB; rw [hno]; rfl)
    have HN := Lib.hid hno
    clear hxy hno
    go_enter Tryd.func25, Tryd.ntmps25
    go_wp2_with fail
    refine (both_no _ _ _ _ _ _ xs ys _ hr hr' hn hn' HN.out).mono ?_
    rintro e w1 ⟨rfl, hb1⟩
    have hz := hb1.size
    clear hr hr'
    go_wp2
    go_ret
    exact ⟨ret_bool HL.out, (hb1.alloc (by omega) _).alloc (by simp; omega) _⟩


theorem has_word {xs : List Int} {a i r x : Nat} (h : a = wordOf (inB xs) i) (hs : rightB xs = true) (hr : r < 64) (hx : x = 64 * i + r) : hasB xs (x : Int) = (bits .and .u64 ((a : Int) / 2 ^ r) 1 == 1) := by
  subst h
  have hlt : wordOf (inB xs) i / 2 ^ r < 18446744073709551616 := Nat.lt_of_le_of_lt (Nat.div_le_self _ _) (wordOf_lt _ _)
  have e : ((wordOf (inB xs) i : Nat) : Int) / 2 ^ r = ((wordOf (inB xs) i / 2 ^ r : Nat) : Int) := by simp
  have e2 : bits .and .u64 (((wordOf (inB xs) i / 2 ^ r : Nat) : Int)) 1 = ((wordOf (inB xs) i / 2 ^ r &&& 1 : Nat) : Int) := u64_and_nat _ 1 hlt (by omega)
  rw [e, e2, nat_mask1]
  have hb : hasB xs (x : Int) = (wordOf (inB xs) i).testBit r := by
    unfold wordOf
    rw [testBit_bitsTo, ← hx]
    unfold hasB inB
    simp [hs, hr]
  rw [hb, Nat.testBit_eq_decide_div_mod_eq, Bool.eq_iff_iff]
  simp
  omega



end Go.Proofs.YtbiofikijehlcaaDoor

namespace Go.Proofs.YtbiofikijehlcaaDoor
open Go.RowKit

section
variable {A A' : Option Addr} {n c n' c' : Nat} {xs ys : List Int} {w : World}
theorem s_isSet {v : Bool} (hr : RI w w.heap.size A n xs) (hn : n ≤ maxLen) (h : rightB xs = v) :
    Calls Tryd.prog 36 #[.slice A n c] w fun e w' => e = .returned (.bool v) ∧ Below w.heap.size w w' :=
  (right_any A n c xs w _ hr hn).mono fun _ _ ⟨h1, h2⟩ => ⟨by rw [h1, h], by rw [← h2]; exact Below.refl _ _⟩
theorem s_part {v : Bool} (hr : RI w w.heap.size A n xs) (hr' : RI w w.heap.size A' n' ys) (hn : n ≤ maxLen) (hn' : n' ≤ maxLen) (h : partB xs ys = v) :
    Calls Tryd.prog 8 #[.slice A n c, .slice A' n' c'] w fun e w' => e = .returned (.bool v) ∧ Below w.heap.size w w' := h ▸ part_any A A' n c n' c' xs ys w hr hr' hn hn'
theorem s_apart {v : Bool} (hr : RI w w.heap.size A n xs) (hr' : RI w w.heap.size A' n' ys) (hn : n ≤ maxLen) (hn' : n' ≤ maxLen) (h : apartB xs ys = v) :
    Calls Tryd.prog 25 #[.slice A n c, .slice A' n' c'] w fun e w' => e = .returned (.bool v) ∧ Below w.heap.size w w' := h ▸ apart_any A A' n c n' c' xs ys w hr hr' hn hn'
theorem s_join (hr : RI w w.heap.size A n xs) (hr' : RI w w.heap.size A' n' ys) (hn : n ≤ maxLen) (hn' : n' ≤ maxLen) (hG : Glob w) :
    Calls Tryd.prog 11 #[.slice A n c, .slice A' n' c'] w (IPost (joinL xs ys) w) := join_post A A' n c n' c' xs ys w hr hr' hn hn' hG.tz hG.pos
theorem ri_same {v : Bool} (hr : RI w w.heap.size A n xs) (hr' : RI w w.heap.size A' n' ys) (hn : n ≤ maxLen) (hn' : n' ≤ maxLen) (h : sameB xs ys = v) :
    Calls Tryd.prog 10 #[.slice A n c, .slice A' n' c'] w fun e w' => e = .returned (.bool v) ∧ Below w.heap.size w w' :=
  (same_any A A' n c n' c' xs ys w _ _ hr hr' hn hn').mono fun _ _ ⟨h1, k, h2⟩ => ⟨by rw [h1, h], by rw [h2]; exact bel_drew w k⟩
end
theorem same_self (xs : List Int) : sameB xs xs = true := sameB_iff.2 rfl

end Go.Proofs.YtbiofikijehlcaaDoor

namespace Go.Proofs.YtbiofikijehlcaaDoor
open Go.RowKit

/-- a world that keeps all that was there in w -/
structure Later (w : World) where
  now : World
  bel : Below w.heap.size w now
instance (w : World) : Nonempty (Later w) := ⟨⟨w, Below.refl _ _⟩⟩
theorem below_drew1 (w : World) : Below w.heap.size w w.drew := bel_drew w 1
theorem wp_region_later {P : Program} {id : Nat} {Q : Exit → Act → World → Prop} {a : Act} {w : World} {l : List Oper} (hm : P.follows .mixedOrders = true) (hB : Region.lexB .any l.toArray = true)
    (h : wpQuiet P l.toArray (fun w' => ∃ p : Later w, w' = p.now) (fun a' => ∀ w', (∃ p : Later w, w' = p.now) → Q .normal a' w') l a) : (Code.region id l.toArray true).wp P Q a w :=
  wp_region_quiet (C := fun w' => ∃ p : Later w, w' = p.now) hm hB ⟨⟨w.drew, below_drew1 w⟩, rfl⟩ (by simpa using h)
theorem Calls.later_of {P : Program} {f : FuncId} {args : Array Value} {w : World} {p : Later w} {v : Value} (h : Calls P f args p.now fun e w' => e = .returned v ∧ Below p.now.heap.size p.now w') :
    Calls P f args p.now fun e w'' => e = .returned v ∧ ∃ q : Later w, w'' = q.now :=
  h.mono fun _ w' hz => ⟨hz.1, ⟨w', p.bel.trans (hz.2.mono p.bel.size)⟩, rfl⟩
theorem Later.cell {w : World} {p : Later w} {a : Addr} {v : Value} (hl : a.block < w.heap.size) (h : w.cell? a = some v) : p.now.cell? a = some v := (p.bel.cell hl).trans h

/-! a cell that is carried from world to world -/
theorem bel_drew1 (w : World) : Below w.heap.size w w.drew := bel_drew w 1
theorem keep_cell {w wx : World} {p : Addr} {v : Value} (hl : p.block < w.heap.size) (h : w.cell? p = some v) (hb : Below w.heap.size w wx) : wx.cell? p = some v := (hb.cell hl).trans h
structure CellK (w : World) (p : Addr) (v : Value) : Prop where
  lt : p.block < w.heap.size
  at' : w.cell? p = some v
theorem CellK.next {w w' : World} {p : Addr} {v : Value} (h : CellK w p v) (hb : Below w.heap.size w w') : CellK w' p v := ⟨Nat.lt_of_lt_of_le h.lt hb.size, keep_cell h.lt h.at' hb⟩

end Go.Proofs.YtbiofikijehlcaaDoor

namespace Go.Proofs.YtbiofikijehlcaaDoor
open Go.RowKit

structure HeldOk : Prop where
  right : ∀ (A : Option Addr) (n c : Nat) (l : Tb) (w : World), TAsk w A n c l → FewT l → Calls Tryd.prog 14 #[.slice A n c] w (fun e w' => e = .returned (.bool (rightT l)) ∧ Below w.heap.size w w')
  over : ∀ (A : Option Addr) (n c : Nat) (l : Tb) (z : Int) (w : World), TAsk w A n c l → FewT l → Calls Tryd.prog 6 #[.slice A n c, .int .i64 z] w (TTPost (restT l z) (goneT l z) w)
  busy : ∀ (A : Option Addr) (n c : Nat) (l : Tb) (a b : Int) (w : World), TAsk w A n c l → FewT l → Calls Tryd.prog 9 #[.slice A n c, .int .i64 a, .int .i64 b] w (IPost (busyT l a b) w)
  ends : ∀ (A : Option Addr) (n c : Nat) (l : Tb) (z : Int) (w : World), TAsk w A n c l → FewT l → Calls Tryd.prog 13 #[.slice A n c, .int .i64 z] w (IPost (endsT l z) w)
  add : ∀ (A : Option Addr) (n c : Nat) (l : Tb) (A2 : Option Addr) (m c2 : Nat) (h : Hd) (w : World), TAsk w A n c l → FewT l → HAsk w A2 m c2 h → m ≤ 100 → Calls Tryd.prog 12 #[.slice A n c, .agg #[.int .i64 h.id, .slice A2 m c2, .int .i64 h.frm, .int .i64 h.to]] w (TEPost (addT l h) (addE l h) w)

section
variable (H : HeldOk) {A : Option Addr} {n c : Nat} {A2 : Option Addr} {m c2 : Nat} {l : Tb} {h : Hd} {w : World}
include H
theorem h10_add (hl : TAsk w A n c l) (hf : FewT l) (hh : HAsk w A2 m c2 h) (hm : m ≤ 100) {l' : Tb} {er : Int} (e1 : addT l h = l') (e2 : addE l h = er) :
    Calls Tryd.prog 12 #[.slice A n c, .agg #[.int .i64 h.id, .slice A2 m c2, .int .i64 h.frm, .int .i64 h.to]] w (TEPost l' er w) := by
  subst e1 e2; exact H.add A n c l A2 m c2 h w hl hf hh hm
theorem h10_right (hl : TAsk w A n c l) (hf : FewT l) {v : Bool} (e : rightT l = v) : Calls Tryd.prog 14 #[.slice A n c] w fun e w' => e = .returned (.bool v) ∧ Below w.heap.size w w' := by
  subst e; exact H.right A n c l w hl hf
theorem h10_over (hl : TAsk w A n c l) (hf : FewT l) {z : Int} {a b : Tb} (e1 : restT l z = a) (e2 : goneT l z = b) : Calls Tryd.prog 6 #[.slice A n c, .int .i64 z] w (TTPost a b w) := by
  subst e1 e2; exact H.over A n c l z w hl hf
theorem h10_busy (hl : TAsk w A n c l) (hf : FewT l) {a b : Int} {r : List Int} (e : busyT l a b = r) : Calls Tryd.prog 9 #[.slice A n c, .int .i64 a, .int .i64 b] w (IPost r w) := by
  subst e; exact H.busy A n c l a b w hl hf
theorem h10_ends (hl : TAsk w A n c l) (hf : FewT l) {z : Int} {r : List Int} (e : endsT l z = r) : Calls Tryd.prog 13 #[.slice A n c, .int .i64 z] w (IPost r w) := by
  subst e; exact H.ends A n c l z w hl hf
end
section
variable {w : World}
/-- a list that a literal lays -/
theorem ri_lit (w : World) (xs : List Int) (cs : Array Value) (hc : cs.toList = xs.map (Value.int .i64)) : RI (w.alloc (.cells cs 3)) (w.alloc (.cells cs 3)).heap.size (some ⟨w.heap.size, 0, none⟩) xs.length xs := by
  refine ⟨rfl, fun _ => ⟨w.heap.size, 0, rfl, by simp, fun j hj => ?_⟩⟩
  rw [cell_of_row _ w.heap.size (0 + j) _ _ (0, 0) (heap_alloc_new w _), Nat.zero_add, ← Array.getElem?_toList, hc, List.getElem?_map, List.getElem?_eq_getElem hj, List.getD, List.getElem?_eq_getElem hj]
  rfl
theorem nil_ask (w : World) : TAsk w none 0 0 [] := ⟨RT.nil, fun _ => rfl, Nat.le_refl _, Nat.zero_le _⟩
/-- a table that was answered may be asked about -/
theorem ans_ask {A : Option Addr} {c : Nat} {l : Tb} (h : RT w w.heap.size A l.length l) (h1 : A = none → c = 0) (h2 : l.length ≤ c) (h3 : l.length ≤ maxLen) : TAsk w A l.length c l := ⟨h, h1, h2, h3⟩
/-- 30 holdings of 60 things -/
def shortB (l : Tb) : Prop := l.length ≤ 30 ∧ ∀ h ∈ l, h.things.length ≤ 60
theorem short_few {l : Tb} (h : shortB l) : FewT l := ⟨by have := h.1; omega, fun x hx => by have := h.2 x hx; omega⟩
end

end Go.Proofs.YtbiofikijehlcaaDoor

namespace Go.Proofs.YtbiofikijehlcaaDoor
open Go.RowKit

def hA1 : Hd := ⟨1, [2, 3], 0, 5⟩
def hA2 : Hd := ⟨2, [3], 4, 9⟩
def hA3 : Hd := ⟨2, [3], 5, 9⟩
theorem aw_1 : addT [] hA1 = [hA1] ∧ addE [] hA1 = 0 := ⟨by rfl, by decide +kernel⟩
theorem aw_2 : addE [hA1] hA2 = 5 := by decide +kernel
theorem aw_2' : addT [hA1] hA2 = [hA1] := by unfold addT; rw [aw_2]; rfl
theorem aw_3 : addE [hA1] hA3 = 0 := by decide +kernel
theorem aw_3' : addT [hA1] hA3 = [hA1, hA3] := by unfold addT; rw [aw_3]; rfl
theorem aw_4 : busyT [hA1, hA3] 0 9 = [2, 3] := by decide +kernel
theorem aw_5 : endsT [hA1, hA3] 0 = [5, 9] := by decide +kernel
theorem aw_few1 : FewT [hA1] := ⟨by decide, fun h hh => by simp at hh; subst hh; decide⟩
theorem aw_few2 : FewT [hA1, hA3] := ⟨by decide, fun h hh => by simp at hh; rcases hh with rfl | rfl <;> decide⟩
theorem aw_i (h : Hd) (h1 : I64 h.id) (h2 : I64 h.frm) (h3 : I64 h.to) (h4 : ∀ n ∈ h.things, I64 n) : I64 h.id ∧ I64 h.frm ∧ I64 h.to ∧ ∀ n ∈ h.things, I64 n := ⟨h1, h2, h3, h4⟩
theorem aw_ask {w : World} {A : Option Addr} {h : Hd} (hr : RI w w.heap.size A h.things.length h.things) (hA : A ≠ none) (hl : h.things.length ≤ 100) (hi : I64 h.id ∧ I64 h.frm ∧ I64 h.to ∧ ∀ n ∈ h.things, I64 n) : HAsk w A h.things.length h.things.length h :=
  ⟨hr, fun e => absurd e hA, Nat.le_refl _, by unfold maxLen; omega, hi⟩
theorem aw_ii (h : Hd) (h' : h = hA1 ∨ h = hA2 ∨ h = hA3) : I64 h.id ∧ I64 h.frm ∧ I64 h.to ∧ ∀ n ∈ h.things, I64 n := by
  rcases h' with rfl | rfl | rfl
  all_goals
    unfold I64
    simp [hA1, hA2, hA3]

theorem aw_few0 : FewT [] := ⟨by decide, fun h hh => by cases hh⟩
set_option maxRecDepth 100000 in
set_option maxHeartbeats 8000000 in
theorem awake10_any (H : HeldOk) (w : World) : Calls Tryd.prog 4 #[] w fun e w' => e = .returned (.bool true) ∧ Below w.heap.size w w' := by
  have HB := Lib.hid (Below.refl w.heap.size w)
  go_enter Tryd.func4, Tryd.ntmps4
  go_wp2_with fail
  have hb := Below.alloc (Below.refl w.heap.size w) (Nat.le_refl _) (.cells #[.int .i64 2, .int .i64 3] 3)
  have G1q := Lib.hid (aw_ask (h := hA1) (ri_lit w [2, 3] _ rfl) (by simp) (by decide) (aw_ii _ (.inl rfl)))
  have HBq := Lib.hid (HB.out.trans (hb.mono HB.out.size))
  clear HB
  have HB := HBq
  clear HBq
  clear hb
  have G1 := G1q
  clear G1q
  have FN := Lib.hid (nil_ask _ : TAsk (w.alloc (.cells #[.int .i64 2, .int .i64 3] 3)) none 0 0 [])
  go_wp2_with fail
  refine (h10_add H (h := hA1) FN.out aw_few0 G1.out (by decide) aw_1.1 aw_1.2).mono ?_
  rintro e w1 ⟨⟨A1, c1, rfl, hr1, hn1, hc1⟩, hb⟩
  have HBq := Lib.hid (HB.out.trans (hb.mono HB.out.size))
  clear HB
  have HB := HBq
  clear HBq
  have G1q := Lib.hid (G1.out.next hb)
  clear G1
  have G1 := G1q
  clear G1q
  clear hb
  have T1 := Lib.hid (ans_ask hr1 hn1 hc1 (by decide))
  clear hr1 hn1 hc1 FN
  go_wp2_with fail
  have hb := Below.alloc (Below.refl w1.heap.size w1) (Nat.le_refl _) (.cells #[.int .i64 3] 3)
  have G2q := Lib.hid (aw_ask (h := hA2) (ri_lit w1 [3] _ rfl) (by simp) (by decide) (aw_ii _ (.inr (.inl rfl))))
  have HBq := Lib.hid (HB.out.trans (hb.mono HB.out.size))
  clear HB
  have HB := HBq
  clear HBq
  have G1q := Lib.hid (G1.out.next hb)
  clear G1
  have G1 := G1q
  clear G1q
  have T1q := Lib.hid (T1.out.next hb)
  clear T1
  have T1 := T1q
  clear T1q
  clear hb
  have G2 := G2q
  clear G2q
  go_wp2_with fail
  refine (h10_add H (h := hA2) T1.out aw_few1 G2.out (by decide) aw_2' aw_2).mono ?_
  rintro e w2 ⟨⟨A2, c2, rfl, hr2, hn2, hc2⟩, hb⟩
  have HBq := Lib.hid (HB.out.trans (hb.mono HB.out.size))
  clear HB
  have HB := HBq
  clear HBq
  have G1q := Lib.hid (G1.out.next hb)
  clear G1
  have G1 := G1q
  clear G1q
  have T1q := Lib.hid (T1.out.next hb)
  clear T1
  have T1 := T1q
  clear T1q
  have G2q := Lib.hid (G2.out.next hb)
  clear G2
  have G2 := G2q
  clear G2q
  clear hb
  clear hr2 hn2 hc2
  go_wp2_with fail
  have hb := Below.alloc (Below.refl w2.heap.size w2) (Nat.le_refl _) (.cells #[.int .i64 3] 3)
  have G3q := Lib.hid (aw_ask (h := hA3) (ri_lit w2 [3] _ rfl) (by simp) (by decide) (aw_ii _ (.inr (.inr rfl))))
  have HBq := Lib.hid (HB.out.trans (hb.mono HB.out.size))
  clear HB
  have HB := HBq
  clear HBq
  have G1q := Lib.hid (G1.out.next hb)
  clear G1
  have G1 := G1q
  clear G1q
  have T1q := Lib.hid (T1.out.next hb)
  clear T1
  have T1 := T1q
  clear T1q
  have G2q := Lib.hid (G2.out.next hb)
  clear G2
  have G2 := G2q
  clear G2q
  clear hb
  have G3 := G3q
  clear G3q
  go_wp2_with fail
  refine (h10_add H (h := hA3) T1.out aw_few1 G3.out (by decide) aw_3' aw_3).mono ?_
  rintro e w3 ⟨⟨A3, c3, rfl, hr3, hn3, hc3⟩, hb⟩
  have HBq := Lib.hid (HB.out.trans (hb.mono HB.out.size))
  clear HB
  have HB := HBq
  clear HBq
  have G1q := Lib.hid (G1.out.next hb)
  clear G1
  have G1 := G1q
  clear G1q
  have T1q := Lib.hid (T1.out.next hb)
  clear T1
  have T1 := T1q
  clear T1q
  have G2q := Lib.hid (G2.out.next hb)
  clear G2
  have G2 := G2q
  clear G2q
  have G3q := Lib.hid (G3.out.next hb)
  clear G3
  have G3 := G3q
  clear G3q
  clear hb
  have T3 := Lib.hid (ans_ask hr3 hn3 hc3 (by decide))
  clear hr3 hn3 hc3
  go_wp2_with fail
  refine (h10_busy H T3.out aw_few2 aw_4).mono ?_
  rintro e w4 ⟨⟨A4, c4, rfl, _, _, _⟩, hb⟩
  have HBq := Lib.hid (HB.out.trans (hb.mono HB.out.size))
  clear HB
  have HB := HBq
  clear HBq
  have G1q := Lib.hid (G1.out.next hb)
  clear G1
  have G1 := G1q
  clear G1q
  have T1q := Lib.hid (T1.out.next hb)
  clear T1
  have T1 := T1q
  clear T1q
  have G2q := Lib.hid (G2.out.next hb)
  clear G2
  have G2 := G2q
  clear G2q
  have G3q := Lib.hid (G3.out.next hb)
  clear G3
  have G3 := G3q
  clear G3q
  have T3q := Lib.hid (T3.out.next hb)
  clear T3
  have T3 := T3q
  clear T3q
  clear hb
  go_wp2_with fail
  refine (h10_ends H T3.out aw_few2 aw_5).mono ?_
  rintro e w5 ⟨⟨A5, c5, rfl, _, _, _⟩, hb⟩
  have HBq := Lib.hid (HB.out.trans (hb.mono HB.out.size))
  clear HB
  have HB := HBq
  clear HBq
  have G1q := Lib.hid (G1.out.next hb)
  clear G1
  have G1 := G1q
  clear G1q
  have T1q := Lib.hid (T1.out.next hb)
  clear T1
  have T1 := T1q
  clear T1q
  have G2q := Lib.hid (G2.out.next hb)
  clear G2
  have G2 := G2q
  clear G2q
  have G3q := Lib.hid (G3.out.next hb)
  clear G3
  have G3 := G3q
  clear G3q
  have T3q := Lib.hid (T3.out.next hb)
  clear T3
  have T3 := T3q
  clear T3q
  clear hb
  go_wp2
  go_ret
  exact ⟨rfl, HB.out⟩

end Go.Proofs.YtbiofikijehlcaaDoor

namespace Go.Proofs.YtbiofikijehlcaaDoor
open Go.RowKit


/-! Touch: two rows by rising numbers, walked side by side -/
theorem rise_lt {l : List Int} (h : rightB l = true) : ∀ {i j : Nat}, i < j → j < l.length → l.getD i 0 < l.getD j 0 := by
  induction l with
  | nil => intro i j _ h2; simp at h2
  | cons x r ih =>
    intro i j h1 h2
    obtain ⟨j', rfl⟩ : ∃ j', j = j' + 1 := ⟨j - 1, by omega⟩
    have hj : j' < r.length := by simpa using h2
    cases i with
    | zero =>
      rw [List.getD_cons_zero, List.getD_cons_succ]
      refine right_below h _ ?_
      rw [List.getD, List.getElem?_eq_getElem hj]
      exact List.getElem_mem hj
    | succ i =>
      rw [List.getD_cons_succ, List.getD_cons_succ]
      exact ih (right_tail h) (by omega) hj
theorem getD_mem {l : List Int} {i : Nat} (h : i < l.length) : l.getD i 0 ∈ l := by
  rw [List.getD, List.getElem?_eq_getElem h]; exact List.getElem_mem h
theorem mem_getD {l : List Int} {x : Int} (h : x ∈ l) : ∃ i, i < l.length ∧ l.getD i 0 = x := by
  obtain ⟨i, hi, e⟩ := List.getElem_of_mem h
  exact ⟨i, hi, by rw [List.getD, List.getElem?_eq_getElem hi]; exact e⟩
/-- nothing of the first i of one is in the other, and the other way round -/
structure NoneYet (a b : List Int) (i k : Nat) : Prop where
  left : ∀ j, j < i → a.getD j 0 ∉ b
  right : ∀ j, j < k → b.getD j 0 ∉ a
theorem NoneYet.go1 {a b : List Int} {i k : Nat} (_ : rightB a = true) (hb : rightB b = true) (h : NoneYet a b i k) (hi : i < a.length) (hk : k < b.length) (hlt : a.getD i 0 < b.getD k 0) : NoneYet a b (i + 1) k := by
  refine ⟨fun j hj => ?_, h.right⟩
  by_cases hji : j = i
  · subst hji
    intro hm
    obtain ⟨q, hq, e⟩ := mem_getD hm
    rcases Nat.lt_trichotomy q k with hqk | hqk | hqk
    · exact h.right q hqk (by rw [e]; exact getD_mem hi)
    · subst hqk; omega
    · have := rise_lt hb hqk hq; omega
  · exact h.left j (by omega)
theorem NoneYet.go2 {a b : List Int} {i k : Nat} (ha : rightB a = true) (_ : rightB b = true) (h : NoneYet a b i k) (hi : i < a.length) (hk : k < b.length) (hlt : b.getD k 0 < a.getD i 0) : NoneYet a b i (k + 1) := by
  refine ⟨h.left, fun j hj => ?_⟩
  by_cases hji : j = k
  · subst hji
    intro hm
    obtain ⟨q, hq, e⟩ := mem_getD hm
    rcases Nat.lt_trichotomy q i with hqk | hqk | hqk
    · exact h.left q hqk (by rw [e]; exact getD_mem hk)
    · subst hqk; omega
    · have := rise_lt ha hqk hq; omega
  · exact h.right j (by omega)
theorem NoneYet.done {a b : List Int} {i k : Nat} (h : NoneYet a b i k) (he : a.length ≤ i ∨ b.length ≤ k) : touchB a b = false := by
  refine Bool.eq_false_iff.2 fun ht => ?_
  obtain ⟨n, h1, h2⟩ := touch_iff.1 ht
  rcases he with he | he
  · obtain ⟨q, hq, e⟩ := mem_getD h1
    exact h.left q (by omega) (by rw [e]; exact h2)
  · obtain ⟨q, hq, e⟩ := mem_getD h2
    exact h.right q (by omega) (by rw [e]; exact h1)

end Go.Proofs.YtbiofikijehlcaaDoor

namespace Go.Proofs.YtbiofikijehlcaaDoor
open Go.RowKit



end Go.Proofs.YtbiofikijehlcaaDoor

namespace Go.Proofs.YtbiofikijehlcaaDoor
open Go.RowKit

theorem keepc {w wx : World} {p : Addr} {v : Value} (hl : p.block < w.heap.size) (h : w.cell? p = some v) (hb : Below w.heap.size w wx) : wx.cell? p = some v := (hb.cell hl).trans h
/-- the first i of a table stand right -/
structure RP (l : Tb) (i : Nat) : Prop where
  may : ∀ j, j < i → MayH (l.getD j hd0)
  row : ∀ j k, j < k → k < i → Ahead (l.getD j hd0) (l.getD k hd0)
theorem getD_hd {l : Tb} {i : Nat} (h : i < l.length) : l.getD i hd0 = l[i] := by rw [List.getD, List.getElem?_eq_getElem h]; rfl
theorem rp_all {l : Tb} : RightT l ↔ l.length ≤ 256 ∧ RP l l.length := by
  constructor
  · intro h
    refine ⟨h.few, fun j hj => by rw [getD_hd hj]; exact h.may _ (List.getElem_mem hj), fun j k hjk hk => ?_⟩
    rw [getD_hd hk, getD_hd (show j < l.length by omega)]
    exact List.pairwise_iff_getElem.1 h.row j k (by omega) hk hjk
  · rintro ⟨h1, h2⟩
    refine ⟨h1, fun x hx => ?_, List.pairwise_iff_getElem.2 fun j k hj hk hjk => ?_⟩
    · obtain ⟨j, hj, rfl⟩ := List.getElem_of_mem hx
      rw [← getD_hd hj]; exact h2.may j hj
    · rw [← getD_hd hj, ← getD_hd hk]; exact h2.row j k hjk hk
theorem rp_zero (l : Tb) : RP l 0 := ⟨fun j hj => absurd hj (by omega), fun j k _ hk => absurd hk (by omega)⟩
theorem rp_less {l : Tb} {i j : Nat} (h : RP l j) (hi : i ≤ j) : RP l i := ⟨fun k hk => h.may k (by omega), fun a b h1 h2 => h.row a b h1 (by omega)⟩
theorem rp_succ {l : Tb} {i : Nat} (h : RP l i) (h1 : MayH (l.getD i hd0)) (h2 : 0 < i → (l.getD (i - 1) hd0).id < (l.getD i hd0).id) (h3 : ∀ k, k < i → clashH (l.getD k hd0) (l.getD i hd0) = false) : RP l (i + 1) := by
  refine ⟨fun j hj => ?_, fun j k hjk hk => ?_⟩
  · by_cases e : j = i
    · subst e; exact h1
    · exact h.may j (by omega)
  · by_cases e : k = i
    · subst e
      refine ⟨?_, h3 j hjk⟩
      have h4 := h2 (by omega)
      by_cases e2 : j = k - 1
      · subst e2; exact h4
      · have := (h.row j (k - 1) (by omega) (by omega)).1
        omega
    · exact h.row j k hjk (by omega)
theorem right_no {l : Tb} {i : Nat} (hi : i < l.length) (h : ¬ RP l (i + 1)) : rightT l = false := by
  refine Bool.eq_false_iff.2 fun hr => h ?_
  exact rp_less (rp_all.1 (rightT_is.1 hr)).2 hi
theorem right_long {l : Tb} (h : 256 < l.length) : rightT l = false := by
  refine Bool.eq_false_iff.2 fun hr => ?_
  have := (rightT_is.1 hr).few
  omega


end Go.Proofs.YtbiofikijehlcaaDoor
