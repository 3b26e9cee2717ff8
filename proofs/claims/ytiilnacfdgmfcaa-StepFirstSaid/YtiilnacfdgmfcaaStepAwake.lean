/- The fixed answers that the statements of layer 3 ask for first, as a walk over the contracts. -/
import Derived.Test.YtiilnacfdgmfcaaStepFace
namespace Go.Proofs.Ytiilnacfdgmfcaa
open Go.RowKit

theorem awake_new : newR 4 = ([(0, 4)], 0) := by decide +kernel
theorem awake_take : takeR [(0, 4)] 2 5 3 = ([(0, 4), (2, 1), (5, 4)], 0) := by decide +kernel
theorem awake_first : firstR [(0, 4), (2, 1), (5, 4)] 1 2 3 = (5, true) := by decide +kernel
theorem awake_least : leastE [(0, 4), (2, 1), (5, 4)] 0 3 = (1, 0) := by decide +kernel
theorem awake_at : atR [(0, 4), (2, 1), (5, 4)] 5 = 4 := by decide +kernel

set_option maxRecDepth 100000 in
set_option maxHeartbeats 2000000 in
theorem stepAwake_any (H : StepOk) (w : World) : Calls Try.prog 8 #[] w fun e w' => e = .returned (.bool true) ∧ Below w.heap.size w w' := by
  have HB := Lib.hid (Below.refl w.heap.size w)
  go_enter Try.func8, Try.ntmps8
  go_wp2_with fail
  refine (calls_spost (H.new 4 _ ⟨by omega, by omega⟩) awake_new).mono ?_
  rintro e w1 ⟨⟨A1, c1, rfl, hr1, hnil1, hc1⟩, hb1⟩
  have hBz := HB.out.size
  have HB2 := Lib.hid (HB.out.trans (hb1.mono hBz))
  clear HB hBz
  have HB := HB2
  clear HB2
  clear hb1
  have F1 := Lib.hid hr1
  have F1c := Lib.hid hc1
  have F1z := Lib.hid hnil1
  clear hr1 hc1 hnil1
  go_wp2_with fail
  refine (calls_spost (H.take _ _ _ _ 2 5 3 _ F1.out F1z.out F1c.out (by decide) ⟨by omega, by omega⟩ ⟨by omega, by omega⟩ ⟨by omega, by omega⟩) awake_take).mono ?_
  rintro e w2 ⟨⟨A2, c2, rfl, hr2, hnil2, hc2⟩, hb2⟩
  have hBz := HB.out.size
  have HB2 := Lib.hid (HB.out.trans (hb2.mono hBz))
  clear HB hBz
  have HB := HB2
  clear HB2
  have F12 := Lib.hid (F1.out.next hb2)
  clear F1
  have F1 := F12
  clear F12
  clear hb2
  have F2 := Lib.hid hr2
  have F2c := Lib.hid hc2
  have F2z := Lib.hid hnil2
  clear hr2 hc2 hnil2
  clear F1
  go_wp2_with fail
  refine (calls_first (H.first _ _ _ _ 1 2 3 _ F2.out (by decide) ⟨by omega, by omega⟩ ⟨by omega, by omega⟩ ⟨by omega, by omega⟩) awake_first).mono ?_
  rintro e w3 ⟨rfl, hb3⟩
  have hBz := HB.out.size
  have HB2 := Lib.hid (HB.out.trans (hb3.mono hBz))
  clear HB hBz
  have HB := HB2
  clear HB2
  have F22 := Lib.hid (F2.out.next hb3)
  clear F2
  have F2 := F22
  clear F22
  clear hb3
  go_wp2_with fail
  refine (calls_pair (H.least _ _ _ _ 0 3 _ F2.out F2c.out (by decide) ⟨by omega, by omega⟩ ⟨by omega, by omega⟩) awake_least).mono ?_
  rintro e w4 ⟨rfl, hb4⟩
  have hBz := HB.out.size
  have HB2 := Lib.hid (HB.out.trans (hb4.mono hBz))
  clear HB hBz
  have HB := HB2
  clear HB2
  have F22 := Lib.hid (F2.out.next hb4)
  clear F2
  have F2 := F22
  clear F22
  clear hb4
  go_wp2_with fail
  refine (calls_int (H.at_ _ _ _ _ 5 _ F2.out (by decide) ⟨by omega, by omega⟩) awake_at).mono ?_
  rintro e w5 ⟨rfl, hb5⟩
  have hBz := HB.out.size
  have HB2 := Lib.hid (HB.out.trans (hb5.mono hBz))
  clear HB hBz
  have HB := HB2
  clear HB2
  have F22 := Lib.hid (F2.out.next hb5)
  clear F2
  have F2 := F22
  clear F22
  clear hb5
  go_wp2
  go_ret
  exact ⟨rfl, HB.out⟩

end Go.Proofs.Ytiilnacfdgmfcaa
