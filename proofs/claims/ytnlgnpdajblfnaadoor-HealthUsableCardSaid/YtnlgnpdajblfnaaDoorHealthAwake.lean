/- The fixed answers that the statements of layer 6 ask for first, as a walk over the contracts. -/
import Derived.Test.YtnlgnpdajblfnaaDoorHealthFace
import Derived.Test.YtnlgnpdajblfnaaDoorHealthLaws
namespace Go.Proofs.YtnlgnpdajblfnaaDoor
open Go.RowKit

def gH : Gr := [⟨0, -1, ⟨#[]⟩⟩, ⟨2, 0, ⟨#[]⟩⟩, ⟨3, 1, ⟨#[]⟩⟩]
theorem awakeH_new : newL gH = [0, 0, 0] := by decide +kernel
theorem awakeH_set : setL gH [0, 0, 0] 1 1 = ([0, 1, 0], 0) := by decide +kernel
theorem awakeH_usable : belowL gH [0, 1, 0] 0 = [0] := by decide +kernel
theorem awakeH_works : belowL gH [0, 1, 0] 1 = [0, 1, 2] := by decide +kernel
theorem awakeH_worst : worstL gH [0, 1, 0] 2 = 1 := by decide +kernel
theorem gH_lit (w : World) : GAsk (w.alloc (.cells #[.int .i64 0, .int .i64 (-1), .string ⟨#[]⟩, .int .i64 2, .int .i64 0, .string ⟨#[]⟩, .int .i64 3, .int .i64 1, .string ⟨#[]⟩] 35)) (some ⟨w.heap.size, 0, none⟩) 3 3 gH := by
  refine ⟨⟨rfl, fun _ => ⟨w.heap.size, 0, rfl, by show w.heap.size < _; simp, fun j x hx => ?_⟩⟩, (fun h => by cases h), by omega, by omega⟩
  have hj : j < 3 := (List.getElem?_eq_some_iff.1 hx).1
  have hcell : ∀ o, (w.alloc (.cells #[.int .i64 0, .int .i64 (-1), .string ⟨#[]⟩, .int .i64 2, .int .i64 0, .string ⟨#[]⟩, .int .i64 3, .int .i64 1, .string ⟨#[]⟩] 35)).cell? ⟨w.heap.size, o, none⟩ = _ := fun o => World.cell?_alloc_at (w := w) _ _ w.heap.size o rfl
  rcases (show j = 0 ∨ j = 1 ∨ j = 2 by omega) with rfl | rfl | rfl
  all_goals
    simp [gH] at hx
    subst hx
    refine ⟨_, rfl, fun i v hv => ?_, rfl, by unfold I64; simp, by unfold I64; simp, by unfold maxLen; decide⟩
    have hi : i < 3 := (List.getElem?_eq_some_iff.1 hv).1
    rcases (show i = 0 ∨ i = 1 ∨ i = 2 by omega) with rfl | rfl | rfl
    all_goals
      rw [hcell]
      simp at hv ⊢
      exact hv

set_option maxRecDepth 100000 in
set_option maxHeartbeats 4000000 in
theorem healthAwake_any (H : HealthOk) (w : World) (hG : Glob w) : Calls Tryd.prog 5 #[] w fun e w' => e = .returned (.bool true) ∧ Below w.heap.size w w' := by
  have HB := Lib.hid (Below.refl w.heap.size w)
  have HG := Lib.hid hG
  clear hG
  go_enter Tryd.func5, Tryd.ntmps5
  go_wp2_with fail
  have hbL := Below.alloc (Below.refl w.heap.size w) (Nat.le_refl _) (.cells #[.int .i64 0, .int .i64 (-1), .string ⟨#[]⟩, .int .i64 2, .int .i64 0, .string ⟨#[]⟩, .int .i64 3, .int .i64 1, .string ⟨#[]⟩] 35)
  have FG' := Lib.hid (gH_lit w)
  have hBz := HB.out.size
  have HB2 := Lib.hid (HB.out.trans (hbL.mono hBz))
  clear HB hBz
  have HB := HB2
  clear HB2
  have HG2 := Lib.hid (HG.out.next hbL)
  clear HG
  have HG := HG2
  clear HG2
  clear hbL
  have FG := FG'
  clear FG'
  refine (calls_ipost (H.new _ _ _ _ _ FG.out HG.out) awakeH_new).mono ?_
  rintro e w1 ⟨⟨A1, c1, rfl, hr1, hnil1, hc1⟩, hb1⟩
  have hBz := HB.out.size
  have HB2 := Lib.hid (HB.out.trans (hb1.mono hBz))
  clear HB hBz
  have HB := HB2
  clear HB2
  have HG2 := Lib.hid (HG.out.next hb1)
  clear HG
  have HG := HG2
  clear HG2
  have FG2 := Lib.hid (FG.out.next hb1)
  clear FG
  have FG := FG2
  clear FG2
  clear hb1
  have F1 := Lib.hid hr1
  have F1c := Lib.hid hc1
  have F1z := Lib.hid hnil1
  clear hr1 hc1 hnil1
  have F1L := Lib.hid (LAsk.mk F1.out F1z.out F1c.out (by decide) (by intro x hx; simp at hx; subst hx; unfold I64; omega))
  clear F1c F1z
  clear F1
  go_wp2_with fail
  refine (calls_iepost (H.set _ _ _ _ _ _ _ _ 1 1 _ FG.out F1L.out ⟨by omega, by omega⟩ ⟨by omega, by omega⟩ HG.out) awakeH_set).mono ?_
  rintro e w2 ⟨⟨A2, c2, rfl, hr2, hnil2, hc2⟩, hb2⟩
  have hBz := HB.out.size
  have HB2 := Lib.hid (HB.out.trans (hb2.mono hBz))
  clear HB hBz
  have HB := HB2
  clear HB2
  have HG2 := Lib.hid (HG.out.next hb2)
  clear HG
  have HG := HG2
  clear HG2
  have FG2 := Lib.hid (FG.out.next hb2)
  clear FG
  have FG := FG2
  clear FG2
  have F1L2 := Lib.hid (F1L.out.next hb2)
  clear F1L
  have F1L := F1L2
  clear F1L2
  clear hb2
  have F2 := Lib.hid hr2
  have F2c := Lib.hid hc2
  have F2z := Lib.hid hnil2
  clear hr2 hc2 hnil2
  have F2L := Lib.hid (LAsk.mk F2.out F2z.out F2c.out (by decide) (by intro x hx; simp at hx; unfold I64; omega))
  clear F2c F2z
  clear F2
  go_wp2_with fail
  refine (calls_ipost (H.usable _ _ _ _ _ _ _ _ _ FG.out F2L.out HG.out) awakeH_usable).mono ?_
  rintro e w3 ⟨⟨A3, c3, rfl, hr3, hnil3, hc3⟩, hb3⟩
  have hBz := HB.out.size
  have HB2 := Lib.hid (HB.out.trans (hb3.mono hBz))
  clear HB hBz
  have HB := HB2
  clear HB2
  have HG2 := Lib.hid (HG.out.next hb3)
  clear HG
  have HG := HG2
  clear HG2
  have FG2 := Lib.hid (FG.out.next hb3)
  clear FG
  have FG := FG2
  clear FG2
  have F1L2 := Lib.hid (F1L.out.next hb3)
  clear F1L
  have F1L := F1L2
  clear F1L2
  have F2L2 := Lib.hid (F2L.out.next hb3)
  clear F2L
  have F2L := F2L2
  clear F2L2
  clear hb3
  have F3 := Lib.hid hr3
  have F3c := Lib.hid hc3
  have F3z := Lib.hid hnil3
  clear hr3 hc3 hnil3
  clear F3
  go_wp2_with fail
  refine (calls_ipost (H.works _ _ _ _ _ _ _ _ _ FG.out F2L.out HG.out) awakeH_works).mono ?_
  rintro e w4 ⟨⟨A4, c4, rfl, hr4, hnil4, hc4⟩, hb4⟩
  have hBz := HB.out.size
  have HB2 := Lib.hid (HB.out.trans (hb4.mono hBz))
  clear HB hBz
  have HB := HB2
  clear HB2
  have HG2 := Lib.hid (HG.out.next hb4)
  clear HG
  have HG := HG2
  clear HG2
  have FG2 := Lib.hid (FG.out.next hb4)
  clear FG
  have FG := FG2
  clear FG2
  have F1L2 := Lib.hid (F1L.out.next hb4)
  clear F1L
  have F1L := F1L2
  clear F1L2
  have F2L2 := Lib.hid (F2L.out.next hb4)
  clear F2L
  have F2L := F2L2
  clear F2L2
  clear hb4
  have F4 := Lib.hid hr4
  have F4c := Lib.hid hc4
  have F4z := Lib.hid hnil4
  clear hr4 hc4 hnil4
  clear F4
  go_wp2_with fail
  refine (calls_int (H.worst _ _ _ _ _ _ _ _ 2 _ FG.out F2L.out ⟨by omega, by omega⟩ HG.out) awakeH_worst).mono ?_
  rintro e w5 ⟨rfl, hb5⟩
  have hBz := HB.out.size
  have HB2 := Lib.hid (HB.out.trans (hb5.mono hBz))
  clear HB hBz
  have HB := HB2
  clear HB2
  have HG2 := Lib.hid (HG.out.next hb5)
  clear HG
  have HG := HG2
  clear HG2
  have FG2 := Lib.hid (FG.out.next hb5)
  clear FG
  have FG := FG2
  clear FG2
  have F1L2 := Lib.hid (F1L.out.next hb5)
  clear F1L
  have F1L := F1L2
  clear F1L2
  have F2L2 := Lib.hid (F2L.out.next hb5)
  clear F2L
  have F2L := F2L2
  clear F2L2
  clear hb5
  go_wp2
  go_ret
  exact ⟨rfl, HB.out⟩

end Go.Proofs.YtnlgnpdajblfnaaDoor
