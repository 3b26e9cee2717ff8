/- The fixed answers that the statements of layer 5 ask for first, as a walk over the contracts. -/
import Derived.Test.YtokjinihdanhbaaDoorGraphFace
import Derived.ChangeKeysEq
namespace Go.Proofs.YtokjinihdanhbaaDoor
open Go.RowKit

def gA : Gr := [⟨0, -1, ⟨#[]⟩⟩, ⟨2, 0, ⟨#[]⟩⟩, ⟨3, 1, ⟨#[]⟩⟩, ⟨3, 1, ⟨#[]⟩⟩]
theorem awakeG_right : rightG gA = true := by decide +kernel
theorem awakeG_under : underL gA 1 = [1, 2, 3] := by decide +kernel
theorem awakeG_above : aboveL gA 3 = [0, 1, 3] := by decide +kernel
theorem awakeG_node : nodeG gA 3 = 1 := by decide +kernel
theorem awakeG_k : (kc gA [2, 3] 0, kc gA [2, 3] 1, kc gA [2, 3] 2, kc gA [2, 3] 3, kc gA [2, 3] 4) = (0, 0, 0, 2, 0) := by decide +kernel
theorem awakeG_kinds : kVal gA [2, 3] = .agg #[.int .i64 0, .int .i64 0, .int .i64 0, .int .i64 2, .int .i64 0] := by
  have h := awakeG_k
  simp only [Prod.mk.injEq] at h
  unfold kVal
  rw [h.1, h.2.1, h.2.2.1, h.2.2.2.1, h.2.2.2.2]
theorem gA_lit (w : World) : GAsk (w.alloc (.cells #[.int .i64 0, .int .i64 (-1), .string ⟨#[]⟩, .int .i64 2, .int .i64 0, .string ⟨#[]⟩, .int .i64 3, .int .i64 1, .string ⟨#[]⟩, .int .i64 3, .int .i64 1, .string ⟨#[]⟩] 35)) (some ⟨w.heap.size, 0, none⟩) 4 4 gA := by
  refine ⟨⟨rfl, fun _ => ⟨w.heap.size, 0, rfl, by show w.heap.size < _; simp, fun j x hx => ?_⟩⟩, (fun h => by cases h), by omega, by omega⟩
  have hj : j < 4 := (List.getElem?_eq_some_iff.1 hx).1
  have hcell : ∀ o, (w.alloc (.cells #[.int .i64 0, .int .i64 (-1), .string ⟨#[]⟩, .int .i64 2, .int .i64 0, .string ⟨#[]⟩, .int .i64 3, .int .i64 1, .string ⟨#[]⟩, .int .i64 3, .int .i64 1, .string ⟨#[]⟩] 35)).cell? ⟨w.heap.size, o, none⟩ = _ := fun o => World.cell?_alloc_at (w := w) _ _ w.heap.size o rfl
  rcases (show j = 0 ∨ j = 1 ∨ j = 2 ∨ j = 3 by omega) with rfl | rfl | rfl | rfl
  all_goals
    simp [gA] at hx
    subst hx
    refine ⟨_, rfl, fun i v hv => ?_, rfl, by unfold I64; simp, by unfold I64; simp, by unfold maxLen; decide⟩
    have hi : i < 3 := (List.getElem?_eq_some_iff.1 hv).1
    rcases (show i = 0 ∨ i = 1 ∨ i = 2 by omega) with rfl | rfl | rfl
    all_goals
      rw [hcell]
      simp at hv ⊢
      exact hv
/-! an array of five, asked at a place -/
theorem run_ix5_0 (a0 a1 a2 a3 a4 : Int) (W : World) : (Instr.index 30 (.agg #[.int .i64 a0, .int .i64 a1, .int .i64 a2, .int .i64 a3, .int .i64 a4]) (.int .i64 0)).run Tryd.prog W = .ok (.int .i64 a0) W := by
  simp [Instr.index, run_underlying Tryd.underlying30, asIntOf, part, isAgg, run_underlying Tryd.underlying3, Tryd.sizeOf3]
theorem run_ix5_1 (a0 a1 a2 a3 a4 : Int) (W : World) : (Instr.index 30 (.agg #[.int .i64 a0, .int .i64 a1, .int .i64 a2, .int .i64 a3, .int .i64 a4]) (.int .i64 1)).run Tryd.prog W = .ok (.int .i64 a1) W := by
  simp [Instr.index, run_underlying Tryd.underlying30, asIntOf, part, isAgg, run_underlying Tryd.underlying3, Tryd.sizeOf3]
theorem run_ix5_2 (a0 a1 a2 a3 a4 : Int) (W : World) : (Instr.index 30 (.agg #[.int .i64 a0, .int .i64 a1, .int .i64 a2, .int .i64 a3, .int .i64 a4]) (.int .i64 2)).run Tryd.prog W = .ok (.int .i64 a2) W := by
  simp [Instr.index, run_underlying Tryd.underlying30, asIntOf, part, isAgg, run_underlying Tryd.underlying3, Tryd.sizeOf3]
theorem run_ix5_3 (a0 a1 a2 a3 a4 : Int) (W : World) : (Instr.index 30 (.agg #[.int .i64 a0, .int .i64 a1, .int .i64 a2, .int .i64 a3, .int .i64 a4]) (.int .i64 3)).run Tryd.prog W = .ok (.int .i64 a3) W := by
  simp [Instr.index, run_underlying Tryd.underlying30, asIntOf, part, isAgg, run_underlying Tryd.underlying3, Tryd.sizeOf3]
theorem run_ix5_4 (a0 a1 a2 a3 a4 : Int) (W : World) : (Instr.index 30 (.agg #[.int .i64 a0, .int .i64 a1, .int .i64 a2, .int .i64 a3, .int .i64 a4]) (.int .i64 4)).run Tryd.prog W = .ok (.int .i64 a4) W := by
  simp [Instr.index, run_underlying Tryd.underlying30, asIntOf, part, isAgg, run_underlying Tryd.underlying3, Tryd.sizeOf3]

theorem run_eq5 (a0 a1 a2 a3 a4 : Int) (W : World) :
    (Op.equalIn 10000 30 (.agg #[.int .i64 a0, .int .i64 a1, .int .i64 a2, .int .i64 a3, .int .i64 a4]) (.agg #[.int .i64 a0, .int .i64 a1, .int .i64 a2, .int .i64 a3, .int .i64 a4])).run Tryd.prog W = .ok true W := by
  obtain ⟨i, hi⟩ : ∃ i, Tryd.prog.info? 3 = some i := by
    cases h : Tryd.prog.info? 3 with
    | none => exact absurd (show (Tryd.prog.info? 3).isSome = true by kernel_rfl) (by rw [h]; simp)
    | some i => exact ⟨i, rfl⟩
  have hc : Tryd.prog.cellsOf 3 = 1 := by kernel_rfl
  rw [show (10000 : Nat) = 9999 + 1 from rfl, run_equalIn_array W 9999 _ _ Tryd.underlying30 hi, hc]
  have hu := Tryd.underlying3
  have hs := fun a => run_equalIn_int (P := Tryd.prog) W 9998 3 .i64 .i64 a a hu
  rw [show List.range 5 = [0, 1, 2, 3, 4] from rfl]
  simp [Op.eqItems, part, isAgg, run_underlying hu, hs]
theorem kVal_form (g : Gr) (l : List Int) : ∃ a0 a1 a2 a3 a4 : Int, kVal g l = .agg #[.int .i64 a0, .int .i64 a1, .int .i64 a2, .int .i64 a3, .int .i64 a4] := ⟨_, _, _, _, _, rfl⟩

set_option maxRecDepth 100000 in
set_option maxHeartbeats 4000000 in
theorem graphAwake_any (H : GraphOk) (w : World) (hG : Glob w) : Calls Tryd.prog 4 #[] w fun e w' => e = .returned (.bool true) ∧ Below w.heap.size w w' := by
  have HB := Lib.hid (Below.refl w.heap.size w)
  have HG := Lib.hid hG
  clear hG
  go_enter Tryd.func4, Tryd.ntmps4
  go_wp2_with fail
  have hbL := Below.alloc (Below.refl w.heap.size w) (Nat.le_refl _) (.cells #[.int .i64 0, .int .i64 (-1), .string ⟨#[]⟩, .int .i64 2, .int .i64 0, .string ⟨#[]⟩, .int .i64 3, .int .i64 1, .string ⟨#[]⟩, .int .i64 3, .int .i64 1, .string ⟨#[]⟩] 35)
  have FG' := Lib.hid (gA_lit w)
  have hBz := HB.out.size
  have HB2 := Lib.hid (HB.out.trans (hbL.mono hBz))
  clear HB hBz
  have HB := HB2
  clear HB2
  have HG2 := Lib.hid (HG.out.next hbL)
  clear HG
  have HG := HG2
  clear HG2
  clear hbL
  have FG := FG'
  clear FG'
  refine (calls_bool (H.right _ _ _ _ _ FG.out HG.out) awakeG_right).mono ?_
  rintro e w1 ⟨rfl, hb1⟩
  have hBz := HB.out.size
  have HB2 := Lib.hid (HB.out.trans (hb1.mono hBz))
  clear HB hBz
  have HB := HB2
  clear HB2
  have HG2 := Lib.hid (HG.out.next hb1)
  clear HG
  have HG := HG2
  clear HG2
  have FG2 := Lib.hid (FG.out.next hb1)
  clear FG
  have FG := FG2
  clear FG2
  clear hb1
  go_wp2_with fail
  refine (calls_ipost (H.under _ _ _ _ 1 _ FG.out (i64_small (k := 1) (by omega)) HG.out) awakeG_under).mono ?_
  rintro e w2 ⟨⟨A2, c2, rfl, hr2, hnil2, hc2⟩, hb2⟩
  have hBz := HB.out.size
  have HB2 := Lib.hid (HB.out.trans (hb2.mono hBz))
  clear HB hBz
  have HB := HB2
  clear HB2
  have HG2 := Lib.hid (HG.out.next hb2)
  clear HG
  have HG := HG2
  clear HG2
  have FG2 := Lib.hid (FG.out.next hb2)
  clear FG
  have FG := FG2
  clear FG2
  clear hb2
  have F1 := Lib.hid hr2
  have F1c := Lib.hid hc2
  have F1z := Lib.hid hnil2
  clear hr2 hc2 hnil2
  go_wp2_with fail
  refine (calls_ipost (H.above _ _ _ _ 3 _ FG.out (i64_small (k := 3) (by omega)) HG.out) awakeG_above).mono ?_
  rintro e w3 ⟨⟨A3, c3, rfl, hr3, hnil3, hc3⟩, hb3⟩
  have hBz := HB.out.size
  have HB2 := Lib.hid (HB.out.trans (hb3.mono hBz))
  clear HB hBz
  have HB := HB2
  clear HB2
  have HG2 := Lib.hid (HG.out.next hb3)
  clear HG
  have HG := HG2
  clear HG2
  have FG2 := Lib.hid (FG.out.next hb3)
  clear FG
  have FG := FG2
  clear FG2
  have F12 := Lib.hid (F1.out.next hb3)
  clear F1
  have F1 := F12
  clear F12
  clear hb3
  have F2 := Lib.hid hr3
  have F2c := Lib.hid hc3
  have F2z := Lib.hid hnil3
  clear hr3 hc3 hnil3
  go_wp2_with fail
  refine (calls_int (H.node _ _ _ _ 3 _ FG.out (i64_small (k := 3) (by omega)) HG.out) awakeG_node).mono ?_
  rintro e w4 ⟨rfl, hb4⟩
  have hBz := HB.out.size
  have HB2 := Lib.hid (HB.out.trans (hb4.mono hBz))
  clear HB hBz
  have HB := HB2
  clear HB2
  have HG2 := Lib.hid (HG.out.next hb4)
  clear HG
  have HG := HG2
  clear HG2
  have FG2 := Lib.hid (FG.out.next hb4)
  clear FG
  have FG := FG2
  clear FG2
  have F12 := Lib.hid (F1.out.next hb4)
  clear F1
  have F1 := F12
  clear F12
  have F22 := Lib.hid (F2.out.next hb4)
  clear F2
  have F2 := F22
  clear F22
  clear hb4
  go_wp2_with fail
  have hbM := Below.alloc (Below.refl w4.heap.size w4) (Nat.le_refl _) (.cells #[.int .i64 2, .int .i64 3] 3)
  have FL' : Hid (LAsk (w4.alloc (.cells #[.int .i64 2, .int .i64 3] 3)) (some ⟨w4.heap.size, 0, none⟩) 2 2 [2, 3]) := Lib.hid ⟨(RI_lit2 w4 2 3 _).more (by simp), (fun h => by cases h), by omega, by omega, by intro x hx; simp at hx; unfold I64; omega⟩
  have hBz := HB.out.size
  have HB2 := Lib.hid (HB.out.trans (hbM.mono hBz))
  clear HB hBz
  have HB := HB2
  clear HB2
  have HG2 := Lib.hid (HG.out.next hbM)
  clear HG
  have HG := HG2
  clear HG2
  have FG2 := Lib.hid (FG.out.next hbM)
  clear FG
  have FG := FG2
  clear FG2
  have F12 := Lib.hid (F1.out.next hbM)
  clear F1
  have F1 := F12
  clear F12
  have F22 := Lib.hid (F2.out.next hbM)
  clear F2
  have F2 := F22
  clear F22
  clear hbM
  have FL := FL'
  clear FL'
  refine (calls_kinds (H.kinds _ _ _ _ _ _ _ _ _ FG.out FL.out HG.out) awakeG_kinds).mono ?_
  rintro e w5 ⟨rfl, hb5⟩
  have hBz := HB.out.size
  have HB2 := Lib.hid (HB.out.trans (hb5.mono hBz))
  clear HB hBz
  have HB := HB2
  clear HB2
  have HG2 := Lib.hid (HG.out.next hb5)
  clear HG
  have HG := HG2
  clear HG2
  have FG2 := Lib.hid (FG.out.next hb5)
  clear FG
  have FG := FG2
  clear FG2
  have F12 := Lib.hid (F1.out.next hb5)
  clear F1
  have F1 := F12
  clear F12
  have F22 := Lib.hid (F2.out.next hb5)
  clear F2
  have F2 := F22
  clear F22
  clear hb5
  have hix := run_ix5_3 0 0 0 2 0
  go_wp2
  go_ret
  exact ⟨rfl, HB.out⟩

end Go.Proofs.YtokjinihdanhbaaDoor
