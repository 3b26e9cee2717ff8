/- The fixed answers that the statements of layer 14 ask for first, as a walk over the contracts. Written by gen/gen_pick.py. What is not too much for a look, in plain words. Written by gen/gen_slot.py. small of layer 14's statements. Written by gen/gen_pick.py. Plain facts for layer 14's statements. No program's text is walked here. Words for memory: two rows of one's own that grow side by side; what their elements reach lies beside both. General: nothing of the program stands here. Words for memory: a holding's block that is stored cell by cell; a holding that lies beside two rows of one's own. A list of the numbers that have a property, walked from the front: what is seen so far. No program's text is walked here. Words for memory: several rows of one's own that grow beside one another, whose elements read older memory alone. General: nothing of the program stands here. -/
import Derived.LoopTactic
import Derived.Test.YtchogijdkagiiaaGreatDoorMg05
import Derived.Test.YtchogijdkagiiaaGreatDoorMg07
import Derived.Test.YtchogijdkagiiaaGreatDoorMg03
import Derived.Test.YtchogijdkagiiaaGreatDoorMg01
namespace Go.Proofs.YtchogijdkagiiaaGreatDoor
open Go.RowKit

def wsP : List Wn := [⟨2, ⟨1, 2, 0, ⟨#[]⟩, false, 3, 0⟩⟩, ⟨3, ⟨1, 1, 0, ⟨#[]⟩, false, 4, 0⟩⟩, ⟨4, ⟨1, 1, 0, ⟨#[]⟩, false, 9, 0⟩⟩]
theorem awP_1 : pickA gS [0, 1, 2, 3] lS wsP 1 100 2 0 = ([⟨3, [3], 1, 5⟩], [⟨2, [2, 3], 5, 8⟩], 0) := by kernel_rfl
theorem awP_2 : pickA gS [0, 1, 2, 3] lS wsP 1 100 1 0 = ([], [], 0) := by kernel_rfl
set_option maxRecDepth 100000 in
theorem wsP_lit (w : World) : WnAsk (w.alloc (.cells #[.int .i64 2, .int .i64 1, .int .i64 2, .int .i64 0, .string ⟨#[]⟩, .bool false, .int .i64 3, .int .i64 0, .int .i64 3, .int .i64 1, .int .i64 1, .int .i64 0, .string ⟨#[]⟩, .bool false, .int .i64 4, .int .i64 0, .int .i64 4, .int .i64 1, .int .i64 1, .int .i64 0, .string ⟨#[]⟩, .bool false, .int .i64 9, .int .i64 0] 43)) (some ⟨w.heap.size, 0, none⟩) 3 3 wsP := by
  refine ⟨⟨rfl, fun _ => ⟨w.heap.size, 0, rfl, by show w.heap.size < _; simp, fun j x hx => ?_⟩⟩, (fun h => by cases h), by omega, by decide⟩
  have hj : j < 3 := (List.getElem?_eq_some_iff.1 hx).1
  have hcell : ∀ o, (w.alloc (.cells #[.int .i64 2, .int .i64 1, .int .i64 2, .int .i64 0, .string ⟨#[]⟩, .bool false, .int .i64 3, .int .i64 0, .int .i64 3, .int .i64 1, .int .i64 1, .int .i64 0, .string ⟨#[]⟩, .bool false, .int .i64 4, .int .i64 0, .int .i64 4, .int .i64 1, .int .i64 1, .int .i64 0, .string ⟨#[]⟩, .bool false, .int .i64 9, .int .i64 0] 43)).cell? ⟨w.heap.size, o, none⟩ = _ := fun o => World.cell?_alloc_at (w := w) _ _ w.heap.size o rfl
  rcases (show j = 0 ∨ j = 1 ∨ j = 2 by omega) with rfl | rfl | rfl
  all_goals
    simp [wsP] at hx
    subst hx
    refine ⟨_, rfl, fun i v hv => ?_, rfl, ⟨i64_of (by decide) (by decide), i64_of (by decide) (by decide), i64_of (by decide) (by decide), by decide, i64_of (by decide) (by decide), i64_of (by decide) (by decide)⟩, i64_of (by decide) (by decide)⟩
    have hi : i < 8 := (List.getElem?_eq_some_iff.1 hv).1
    rcases (show i = 0 ∨ i = 1 ∨ i = 2 ∨ i = 3 ∨ i = 4 ∨ i = 5 ∨ i = 6 ∨ i = 7 by omega) with rfl | rfl | rfl | rfl | rfl | rfl | rfl | rfl
    all_goals
      rw [hcell]
      simp at hv ⊢
      exact hv
set_option maxRecDepth 100000 in
set_option maxHeartbeats 8000000 in
theorem awake14_any (H : PickOk) (w : World) (hG : Glob w) : Calls Tryz.prog 9 #[] w fun e w' => e = .returned (.bool true) ∧ Below w.heap.size w w' := by
  have h1 : Below w.heap.size w (w.alloc (.cells #[.int .i64 0, .int .i64 (-1), .string ⟨#[]⟩, .int .i64 2, .int .i64 0, .string ⟨#[]⟩, .int .i64 3, .int .i64 1, .string ⟨#[]⟩, .int .i64 3, .int .i64 1, .string ⟨#[]⟩] 58)) := ((Below.refl w.heap.size w).alloc (Nat.le_refl _) (.cells #[.int .i64 0, .int .i64 (-1), .string ⟨#[]⟩, .int .i64 2, .int .i64 0, .string ⟨#[]⟩, .int .i64 3, .int .i64 1, .string ⟨#[]⟩, .int .i64 3, .int .i64 1, .string ⟨#[]⟩] 58))
  have h2 : Below (w.alloc (.cells #[.int .i64 0, .int .i64 (-1), .string ⟨#[]⟩, .int .i64 2, .int .i64 0, .string ⟨#[]⟩, .int .i64 3, .int .i64 1, .string ⟨#[]⟩, .int .i64 3, .int .i64 1, .string ⟨#[]⟩] 58)).heap.size (w.alloc (.cells #[.int .i64 0, .int .i64 (-1), .string ⟨#[]⟩, .int .i64 2, .int .i64 0, .string ⟨#[]⟩, .int .i64 3, .int .i64 1, .string ⟨#[]⟩, .int .i64 3, .int .i64 1, .string ⟨#[]⟩] 58)) ((w.alloc (.cells #[.int .i64 0, .int .i64 (-1), .string ⟨#[]⟩, .int .i64 2, .int .i64 0, .string ⟨#[]⟩, .int .i64 3, .int .i64 1, .string ⟨#[]⟩, .int .i64 3, .int .i64 1, .string ⟨#[]⟩] 58)).alloc (.cells #[.int .i64 2] 3)) := ((Below.refl (w.alloc (.cells #[.int .i64 0, .int .i64 (-1), .string ⟨#[]⟩, .int .i64 2, .int .i64 0, .string ⟨#[]⟩, .int .i64 3, .int .i64 1, .string ⟨#[]⟩, .int .i64 3, .int .i64 1, .string ⟨#[]⟩] 58)).heap.size (w.alloc (.cells #[.int .i64 0, .int .i64 (-1), .string ⟨#[]⟩, .int .i64 2, .int .i64 0, .string ⟨#[]⟩, .int .i64 3, .int .i64 1, .string ⟨#[]⟩, .int .i64 3, .int .i64 1, .string ⟨#[]⟩] 58))).alloc (Nat.le_refl _) (.cells #[.int .i64 2] 3))
  have h3 : Below ((w.alloc (.cells #[.int .i64 0, .int .i64 (-1), .string ⟨#[]⟩, .int .i64 2, .int .i64 0, .string ⟨#[]⟩, .int .i64 3, .int .i64 1, .string ⟨#[]⟩, .int .i64 3, .int .i64 1, .string ⟨#[]⟩] 58)).alloc (.cells #[.int .i64 2] 3)).heap.size ((w.alloc (.cells #[.int .i64 0, .int .i64 (-1), .string ⟨#[]⟩, .int .i64 2, .int .i64 0, .string ⟨#[]⟩, .int .i64 3, .int .i64 1, .string ⟨#[]⟩, .int .i64 3, .int .i64 1, .string ⟨#[]⟩] 58)).alloc (.cells #[.int .i64 2] 3)) (((w.alloc (.cells #[.int .i64 0, .int .i64 (-1), .string ⟨#[]⟩, .int .i64 2, .int .i64 0, .string ⟨#[]⟩, .int .i64 3, .int .i64 1, .string ⟨#[]⟩, .int .i64 3, .int .i64 1, .string ⟨#[]⟩] 58)).alloc (.cells #[.int .i64 2] 3)).alloc (.cells #[.int .i64 1, .slice (some ⟨w.heap.size + 1, 0, none⟩) 1 1, .int .i64 0, .int .i64 5] 41)) := ((Below.refl ((w.alloc (.cells #[.int .i64 0, .int .i64 (-1), .string ⟨#[]⟩, .int .i64 2, .int .i64 0, .string ⟨#[]⟩, .int .i64 3, .int .i64 1, .string ⟨#[]⟩, .int .i64 3, .int .i64 1, .string ⟨#[]⟩] 58)).alloc (.cells #[.int .i64 2] 3)).heap.size ((w.alloc (.cells #[.int .i64 0, .int .i64 (-1), .string ⟨#[]⟩, .int .i64 2, .int .i64 0, .string ⟨#[]⟩, .int .i64 3, .int .i64 1, .string ⟨#[]⟩, .int .i64 3, .int .i64 1, .string ⟨#[]⟩] 58)).alloc (.cells #[.int .i64 2] 3))).alloc (Nat.le_refl _) (.cells #[.int .i64 1, .slice (some ⟨w.heap.size + 1, 0, none⟩) 1 1, .int .i64 0, .int .i64 5] 41))
  have h4 : Below (((w.alloc (.cells #[.int .i64 0, .int .i64 (-1), .string ⟨#[]⟩, .int .i64 2, .int .i64 0, .string ⟨#[]⟩, .int .i64 3, .int .i64 1, .string ⟨#[]⟩, .int .i64 3, .int .i64 1, .string ⟨#[]⟩] 58)).alloc (.cells #[.int .i64 2] 3)).alloc (.cells #[.int .i64 1, .slice (some ⟨w.heap.size + 1, 0, none⟩) 1 1, .int .i64 0, .int .i64 5] 41)).heap.size (((w.alloc (.cells #[.int .i64 0, .int .i64 (-1), .string ⟨#[]⟩, .int .i64 2, .int .i64 0, .string ⟨#[]⟩, .int .i64 3, .int .i64 1, .string ⟨#[]⟩, .int .i64 3, .int .i64 1, .string ⟨#[]⟩] 58)).alloc (.cells #[.int .i64 2] 3)).alloc (.cells #[.int .i64 1, .slice (some ⟨w.heap.size + 1, 0, none⟩) 1 1, .int .i64 0, .int .i64 5] 41)) ((((w.alloc (.cells #[.int .i64 0, .int .i64 (-1), .string ⟨#[]⟩, .int .i64 2, .int .i64 0, .string ⟨#[]⟩, .int .i64 3, .int .i64 1, .string ⟨#[]⟩, .int .i64 3, .int .i64 1, .string ⟨#[]⟩] 58)).alloc (.cells #[.int .i64 2] 3)).alloc (.cells #[.int .i64 1, .slice (some ⟨w.heap.size + 1, 0, none⟩) 1 1, .int .i64 0, .int .i64 5] 41)).alloc (.cells #[.int .i64 2, .int .i64 1, .int .i64 2, .int .i64 0, .string ⟨#[]⟩, .bool false, .int .i64 3, .int .i64 0, .int .i64 3, .int .i64 1, .int .i64 1, .int .i64 0, .string ⟨#[]⟩, .bool false, .int .i64 4, .int .i64 0, .int .i64 4, .int .i64 1, .int .i64 1, .int .i64 0, .string ⟨#[]⟩, .bool false, .int .i64 9, .int .i64 0] 43)) := ((Below.refl (((w.alloc (.cells #[.int .i64 0, .int .i64 (-1), .string ⟨#[]⟩, .int .i64 2, .int .i64 0, .string ⟨#[]⟩, .int .i64 3, .int .i64 1, .string ⟨#[]⟩, .int .i64 3, .int .i64 1, .string ⟨#[]⟩] 58)).alloc (.cells #[.int .i64 2] 3)).alloc (.cells #[.int .i64 1, .slice (some ⟨w.heap.size + 1, 0, none⟩) 1 1, .int .i64 0, .int .i64 5] 41)).heap.size (((w.alloc (.cells #[.int .i64 0, .int .i64 (-1), .string ⟨#[]⟩, .int .i64 2, .int .i64 0, .string ⟨#[]⟩, .int .i64 3, .int .i64 1, .string ⟨#[]⟩, .int .i64 3, .int .i64 1, .string ⟨#[]⟩] 58)).alloc (.cells #[.int .i64 2] 3)).alloc (.cells #[.int .i64 1, .slice (some ⟨w.heap.size + 1, 0, none⟩) 1 1, .int .i64 0, .int .i64 5] 41))).alloc (Nat.le_refl _) (.cells #[.int .i64 2, .int .i64 1, .int .i64 2, .int .i64 0, .string ⟨#[]⟩, .bool false, .int .i64 3, .int .i64 0, .int .i64 3, .int .i64 1, .int .i64 1, .int .i64 0, .string ⟨#[]⟩, .bool false, .int .i64 4, .int .i64 0, .int .i64 4, .int .i64 1, .int .i64 1, .int .i64 0, .string ⟨#[]⟩, .bool false, .int .i64 9, .int .i64 0] 43))
  have h5 : Below ((((w.alloc (.cells #[.int .i64 0, .int .i64 (-1), .string ⟨#[]⟩, .int .i64 2, .int .i64 0, .string ⟨#[]⟩, .int .i64 3, .int .i64 1, .string ⟨#[]⟩, .int .i64 3, .int .i64 1, .string ⟨#[]⟩] 58)).alloc (.cells #[.int .i64 2] 3)).alloc (.cells #[.int .i64 1, .slice (some ⟨w.heap.size + 1, 0, none⟩) 1 1, .int .i64 0, .int .i64 5] 41)).alloc (.cells #[.int .i64 2, .int .i64 1, .int .i64 2, .int .i64 0, .string ⟨#[]⟩, .bool false, .int .i64 3, .int .i64 0, .int .i64 3, .int .i64 1, .int .i64 1, .int .i64 0, .string ⟨#[]⟩, .bool false, .int .i64 4, .int .i64 0, .int .i64 4, .int .i64 1, .int .i64 1, .int .i64 0, .string ⟨#[]⟩, .bool false, .int .i64 9, .int .i64 0] 43)).heap.size ((((w.alloc (.cells #[.int .i64 0, .int .i64 (-1), .string ⟨#[]⟩, .int .i64 2, .int .i64 0, .string ⟨#[]⟩, .int .i64 3, .int .i64 1, .string ⟨#[]⟩, .int .i64 3, .int .i64 1, .string ⟨#[]⟩] 58)).alloc (.cells #[.int .i64 2] 3)).alloc (.cells #[.int .i64 1, .slice (some ⟨w.heap.size + 1, 0, none⟩) 1 1, .int .i64 0, .int .i64 5] 41)).alloc (.cells #[.int .i64 2, .int .i64 1, .int .i64 2, .int .i64 0, .string ⟨#[]⟩, .bool false, .int .i64 3, .int .i64 0, .int .i64 3, .int .i64 1, .int .i64 1, .int .i64 0, .string ⟨#[]⟩, .bool false, .int .i64 4, .int .i64 0, .int .i64 4, .int .i64 1, .int .i64 1, .int .i64 0, .string ⟨#[]⟩, .bool false, .int .i64 9, .int .i64 0] 43)) (((((w.alloc (.cells #[.int .i64 0, .int .i64 (-1), .string ⟨#[]⟩, .int .i64 2, .int .i64 0, .string ⟨#[]⟩, .int .i64 3, .int .i64 1, .string ⟨#[]⟩, .int .i64 3, .int .i64 1, .string ⟨#[]⟩] 58)).alloc (.cells #[.int .i64 2] 3)).alloc (.cells #[.int .i64 1, .slice (some ⟨w.heap.size + 1, 0, none⟩) 1 1, .int .i64 0, .int .i64 5] 41)).alloc (.cells #[.int .i64 2, .int .i64 1, .int .i64 2, .int .i64 0, .string ⟨#[]⟩, .bool false, .int .i64 3, .int .i64 0, .int .i64 3, .int .i64 1, .int .i64 1, .int .i64 0, .string ⟨#[]⟩, .bool false, .int .i64 4, .int .i64 0, .int .i64 4, .int .i64 1, .int .i64 1, .int .i64 0, .string ⟨#[]⟩, .bool false, .int .i64 9, .int .i64 0] 43)).alloc (.cells #[.int .i64 0, .int .i64 1, .int .i64 2, .int .i64 3] 3)) := ((Below.refl ((((w.alloc (.cells #[.int .i64 0, .int .i64 (-1), .string ⟨#[]⟩, .int .i64 2, .int .i64 0, .string ⟨#[]⟩, .int .i64 3, .int .i64 1, .string ⟨#[]⟩, .int .i64 3, .int .i64 1, .string ⟨#[]⟩] 58)).alloc (.cells #[.int .i64 2] 3)).alloc (.cells #[.int .i64 1, .slice (some ⟨w.heap.size + 1, 0, none⟩) 1 1, .int .i64 0, .int .i64 5] 41)).alloc (.cells #[.int .i64 2, .int .i64 1, .int .i64 2, .int .i64 0, .string ⟨#[]⟩, .bool false, .int .i64 3, .int .i64 0, .int .i64 3, .int .i64 1, .int .i64 1, .int .i64 0, .string ⟨#[]⟩, .bool false, .int .i64 4, .int .i64 0, .int .i64 4, .int .i64 1, .int .i64 1, .int .i64 0, .string ⟨#[]⟩, .bool false, .int .i64 9, .int .i64 0] 43)).heap.size ((((w.alloc (.cells #[.int .i64 0, .int .i64 (-1), .string ⟨#[]⟩, .int .i64 2, .int .i64 0, .string ⟨#[]⟩, .int .i64 3, .int .i64 1, .string ⟨#[]⟩, .int .i64 3, .int .i64 1, .string ⟨#[]⟩] 58)).alloc (.cells #[.int .i64 2] 3)).alloc (.cells #[.int .i64 1, .slice (some ⟨w.heap.size + 1, 0, none⟩) 1 1, .int .i64 0, .int .i64 5] 41)).alloc (.cells #[.int .i64 2, .int .i64 1, .int .i64 2, .int .i64 0, .string ⟨#[]⟩, .bool false, .int .i64 3, .int .i64 0, .int .i64 3, .int .i64 1, .int .i64 1, .int .i64 0, .string ⟨#[]⟩, .bool false, .int .i64 4, .int .i64 0, .int .i64 4, .int .i64 1, .int .i64 1, .int .i64 0, .string ⟨#[]⟩, .bool false, .int .i64 9, .int .i64 0] 43))).alloc (Nat.le_refl _) (.cells #[.int .i64 0, .int .i64 1, .int .i64 2, .int .i64 3] 3))
  have FG := Lib.hid (((((gS_lit w).next h2).next h3).next h4).next h5)
  have z1 : (w.alloc (.cells #[.int .i64 0, .int .i64 (-1), .string ⟨#[]⟩, .int .i64 2, .int .i64 0, .string ⟨#[]⟩, .int .i64 3, .int .i64 1, .string ⟨#[]⟩, .int .i64 3, .int .i64 1, .string ⟨#[]⟩] 58)).heap.size = w.heap.size + 1 := by simp
  have z2 : ((w.alloc (.cells #[.int .i64 0, .int .i64 (-1), .string ⟨#[]⟩, .int .i64 2, .int .i64 0, .string ⟨#[]⟩, .int .i64 3, .int .i64 1, .string ⟨#[]⟩, .int .i64 3, .int .i64 1, .string ⟨#[]⟩] 58)).alloc (.cells #[.int .i64 2] 3)).heap.size = w.heap.size + 1 + 1 := by simp
  have z3 : (((w.alloc (.cells #[.int .i64 0, .int .i64 (-1), .string ⟨#[]⟩, .int .i64 2, .int .i64 0, .string ⟨#[]⟩, .int .i64 3, .int .i64 1, .string ⟨#[]⟩, .int .i64 3, .int .i64 1, .string ⟨#[]⟩] 58)).alloc (.cells #[.int .i64 2] 3)).alloc (.cells #[.int .i64 1, .slice (some ⟨w.heap.size + 1, 0, none⟩) 1 1, .int .i64 0, .int .i64 5] 41)).heap.size = w.heap.size + 1 + 1 + 1 := by simp
  have z4 : ((((w.alloc (.cells #[.int .i64 0, .int .i64 (-1), .string ⟨#[]⟩, .int .i64 2, .int .i64 0, .string ⟨#[]⟩, .int .i64 3, .int .i64 1, .string ⟨#[]⟩, .int .i64 3, .int .i64 1, .string ⟨#[]⟩] 58)).alloc (.cells #[.int .i64 2] 3)).alloc (.cells #[.int .i64 1, .slice (some ⟨w.heap.size + 1, 0, none⟩) 1 1, .int .i64 0, .int .i64 5] 41)).alloc (.cells #[.int .i64 2, .int .i64 1, .int .i64 2, .int .i64 0, .string ⟨#[]⟩, .bool false, .int .i64 3, .int .i64 0, .int .i64 3, .int .i64 1, .int .i64 1, .int .i64 0, .string ⟨#[]⟩, .bool false, .int .i64 4, .int .i64 0, .int .i64 4, .int .i64 1, .int .i64 1, .int .i64 0, .string ⟨#[]⟩, .bool false, .int .i64 9, .int .i64 0] 43)).heap.size = w.heap.size + 1 + 1 + 1 + 1 := by simp
  have r2 := ri_litH (w.alloc (.cells #[.int .i64 0, .int .i64 (-1), .string ⟨#[]⟩, .int .i64 2, .int .i64 0, .string ⟨#[]⟩, .int .i64 3, .int .i64 1, .string ⟨#[]⟩, .int .i64 3, .int .i64 1, .string ⟨#[]⟩] 58)) [2] #[.int .i64 2] rfl
  have r3 : RI ((w.alloc (.cells #[.int .i64 0, .int .i64 (-1), .string ⟨#[]⟩, .int .i64 2, .int .i64 0, .string ⟨#[]⟩, .int .i64 3, .int .i64 1, .string ⟨#[]⟩, .int .i64 3, .int .i64 1, .string ⟨#[]⟩] 58)).alloc (.cells #[.int .i64 2] 3)) ((w.alloc (.cells #[.int .i64 0, .int .i64 (-1), .string ⟨#[]⟩, .int .i64 2, .int .i64 0, .string ⟨#[]⟩, .int .i64 3, .int .i64 1, .string ⟨#[]⟩, .int .i64 3, .int .i64 1, .string ⟨#[]⟩] 58)).alloc (.cells #[.int .i64 2] 3)).heap.size (some ⟨w.heap.size + 1, 0, none⟩) 1 [2] := z1 ▸ r2
  have FL := Lib.hid (((lS_lit ((w.alloc (.cells #[.int .i64 0, .int .i64 (-1), .string ⟨#[]⟩, .int .i64 2, .int .i64 0, .string ⟨#[]⟩, .int .i64 3, .int .i64 1, .string ⟨#[]⟩, .int .i64 3, .int .i64 1, .string ⟨#[]⟩] 58)).alloc (.cells #[.int .i64 2] 3)) (w.heap.size + 1) r3).next h4).next h5)
  have FW := Lib.hid ((wsP_lit (((w.alloc (.cells #[.int .i64 0, .int .i64 (-1), .string ⟨#[]⟩, .int .i64 2, .int .i64 0, .string ⟨#[]⟩, .int .i64 3, .int .i64 1, .string ⟨#[]⟩, .int .i64 3, .int .i64 1, .string ⟨#[]⟩] 58)).alloc (.cells #[.int .i64 2] 3)).alloc (.cells #[.int .i64 1, .slice (some ⟨w.heap.size + 1, 0, none⟩) 1 1, .int .i64 0, .int .i64 5] 41))).next h5)
  have FU := Lib.hid (uS_lit ((((w.alloc (.cells #[.int .i64 0, .int .i64 (-1), .string ⟨#[]⟩, .int .i64 2, .int .i64 0, .string ⟨#[]⟩, .int .i64 3, .int .i64 1, .string ⟨#[]⟩, .int .i64 3, .int .i64 1, .string ⟨#[]⟩] 58)).alloc (.cells #[.int .i64 2] 3)).alloc (.cells #[.int .i64 1, .slice (some ⟨w.heap.size + 1, 0, none⟩) 1 1, .int .i64 0, .int .i64 5] 41)).alloc (.cells #[.int .i64 2, .int .i64 1, .int .i64 2, .int .i64 0, .string ⟨#[]⟩, .bool false, .int .i64 3, .int .i64 0, .int .i64 3, .int .i64 1, .int .i64 1, .int .i64 0, .string ⟨#[]⟩, .bool false, .int .i64 4, .int .i64 0, .int .i64 4, .int .i64 1, .int .i64 1, .int .i64 0, .string ⟨#[]⟩, .bool false, .int .i64 9, .int .i64 0] 43)))
  rw [z2] at FL
  rw [z3] at FW
  rw [z4] at FU
  clear z1 z2 z3 z4 r2 r3
  have HG := Lib.hid (((((hG.next h1).next h2).next h3).next h4).next h5)
  have b2 := h1.trans (h2.mono h1.size)
  have b3 := b2.trans (h3.mono b2.size)
  have b4 := b3.trans (h4.mono b3.size)
  have HB := Lib.hid (b4.trans (h5.mono b4.size))
  clear h1 h2 h3 h4 h5 b2 b3 b4 hG
  go_enter Tryz.func9, Tryz.ntmps9
  go_wp2_with fail
  refine (p14_pick H FG.out FU.out FL.out awS_few FW.out (by decide) (by decide) (i64_of (by decide) (by decide)) (i64_of (by decide) (by decide)) (i64_of (by decide) (by decide)) (i64_of (by decide) (by decide)) HG.out awP_1).mono ?_
  rintro e w1 ⟨⟨A11, c11, A12, c12, rfl, ⟨hr1, hn1, hc1⟩, ⟨kr1, kn1, kc1⟩⟩, hb⟩
  replace HB := Lib.hid (HB.out.trans (hb.mono HB.out.size))
  replace FG := Lib.hid (FG.out.next hb)
  replace FU := Lib.hid (FU.out.next hb)
  replace FL := Lib.hid (FL.out.next hb)
  replace FW := Lib.hid (FW.out.next hb)
  replace HG := Lib.hid (HG.out.next hb)
  clear hb
  have RA := Lib.hid (ans_ask hr1 hn1 hc1 (by decide))
  have RK := Lib.hid (ans_ask kr1 kn1 kc1 (by decide))
  clear hr1 hn1 hc1 kr1 kn1 kc1
  have hb := Below.alloc (Below.refl w1.heap.size w1) (Nat.le_refl _) (.cells #[.int .i64 0, .int .i64 1, .int .i64 2, .int .i64 3] 3)
  have FU2q := Lib.hid (uS_lit w1)
  replace HB := Lib.hid (HB.out.trans (hb.mono HB.out.size))
  replace FG := Lib.hid (FG.out.next hb)
  replace FU := Lib.hid (FU.out.next hb)
  replace FL := Lib.hid (FL.out.next hb)
  replace FW := Lib.hid (FW.out.next hb)
  replace HG := Lib.hid (HG.out.next hb)
  replace RA := Lib.hid (RA.out.next hb)
  replace RK := Lib.hid (RK.out.next hb)
  clear hb
  have FU2 := FU2q
  clear FU2q
  go_wp2_with fail
  refine (p14_pick H FG.out FU2.out FL.out awS_few FW.out (by decide) (by decide) (i64_of (by decide) (by decide)) (i64_of (by decide) (by decide)) (i64_of (by decide) (by decide)) (i64_of (by decide) (by decide)) HG.out awP_2).mono ?_
  rintro e w2 ⟨⟨A21, c21, A22, c22, rfl, ⟨hr2, hn2, hc2⟩, ⟨kr2, kn2, kc2⟩⟩, hb⟩
  replace HB := Lib.hid (HB.out.trans (hb.mono HB.out.size))
  replace FG := Lib.hid (FG.out.next hb)
  replace FU := Lib.hid (FU.out.next hb)
  replace FL := Lib.hid (FL.out.next hb)
  replace FW := Lib.hid (FW.out.next hb)
  replace HG := Lib.hid (HG.out.next hb)
  replace RA := Lib.hid (RA.out.next hb)
  replace RK := Lib.hid (RK.out.next hb)
  replace FU2 := Lib.hid (FU2.out.next hb)
  clear hb
  clear hr2 hn2 hc2 kr2 kn2 kc2
  obtain ⟨b, off, A9, m9, c9, rfl, hb9, e0, e1, e2, e3, hh⟩ := RA.out.reads.one (k := 0) (by decide)
  obtain ⟨bb, offb, B9, n9, d9, rfl, hb8, f0, f1, f2, f3, hh2⟩ := RK.out.reads.one (k := 0) (by decide)
  simp only [Nat.zero_mul, Nat.add_zero] at e0 f2
  rw [show (([⟨3, [3], 1, 5⟩] : Tb).getD 0 hd0).id = 3 from rfl] at e0
  rw [show (([⟨2, [2, 3], 5, 8⟩] : Tb).getD 0 hd0).frm = 5 from rfl] at f2
  clear e1 e2 e3 f0 f1 f3 hh hh2
  go_wp2
  go_ret
  exact ⟨rfl, HB.out⟩

end Go.Proofs.YtchogijdkagiiaaGreatDoor

namespace Go.Proofs.YtchogijdkagiiaaGreatDoor
open Go.RowKit

def SmallS (n n2 n3 : Nat) (l : Tb) (n4 : Nat) : Prop := n ≤ 40 ∧ n2 ≤ 60 ∧ n3 ≤ 12 ∧ shortT l = true ∧ n4 ≤ 8
instance (n n2 n3 : Nat) (l : Tb) (n4 : Nat) : Decidable (SmallS n n2 n3 l n4) := by unfold SmallS; infer_instance
theorem short_fewS {l : Tb} (h : shortT l = true) : FewT l := by
  have h1 := of_decide_eq_true h
  refine ⟨by omega, fun x hx => ?_⟩
  obtain ⟨i, hi, e⟩ := List.getElem_of_mem hx
  have := h1.2 i hi
  rw [List.getD, List.getElem?_eq_getElem hi] at this
  simp only [Option.getD_some] at this
  rw [← e]; omega

end Go.Proofs.YtchogijdkagiiaaGreatDoor

namespace Go.Proofs.YtchogijdkagiiaaGreatDoor
open Go.RowKit

set_option maxRecDepth 100000 in
set_option maxHeartbeats 8000000 in
theorem smallP_b {A A2 A3 A4 : Option Addr} {n c n2 c2 n3 c3 n4 c4 : Nat} {l : Tb} {w : World} {v : Bool} (hl : TAsk w A3 n3 c3 l) (hv : decide (SmallS n n2 n3 l n4) = v) : Calls Tryz.prog 10 #[.slice A n c, .slice A2 n2 c2, .slice A3 n3 c3, .slice A4 n4 c4] w fun e w' => e = .returned (.bool v) ∧ Below w.heap.size w w' := by
  have TA := Lib.hid hl
  clear hl
  by_cases h1 : n ≤ 40
  rotate_left
  · have HV : Hid (v = false) := Lib.hid (by rw [← hv]; exact decide_eq_false fun h => by exact h1 h.1)
    have dn : decide ((n : Nat) ≤ 40) = false := decide_eq_false (by omega)
    have zzn : decide (((n : Nat) : Int) ≤ 40) = false := decide_eq_false (by omega)
    clear hv
    go_enter Tryz.func10, Tryz.ntmps10
    go_wp2
    go_ret
    exact ⟨by rw [HV.out]; rfl, Below.refl _ _⟩
  by_cases h2 : n2 ≤ 60
  rotate_left
  · have HV : Hid (v = false) := Lib.hid (by rw [← hv]; exact decide_eq_false fun h => by exact h2 h.2.1)
    have dn : decide ((n : Nat) ≤ 40) = true := decide_eq_true (by omega)
    have zzn : decide (((n : Nat) : Int) ≤ 40) = true := decide_eq_true (by omega)
    have dn2 : decide ((n2 : Nat) ≤ 60) = false := decide_eq_false (by omega)
    have zzn2 : decide (((n2 : Nat) : Int) ≤ 60) = false := decide_eq_false (by omega)
    clear hv
    go_enter Tryz.func10, Tryz.ntmps10
    go_wp2
    go_ret
    exact ⟨by rw [HV.out]; rfl, Below.refl _ _⟩
  by_cases h3 : n3 ≤ 12
  rotate_left
  · have HV : Hid (v = false) := Lib.hid (by rw [← hv]; exact decide_eq_false fun h => by exact h3 h.2.2.1)
    have dn : decide ((n : Nat) ≤ 40) = true := decide_eq_true (by omega)
    have zzn : decide (((n : Nat) : Int) ≤ 40) = true := decide_eq_true (by omega)
    have dn2 : decide ((n2 : Nat) ≤ 60) = true := decide_eq_true (by omega)
    have zzn2 : decide (((n2 : Nat) : Int) ≤ 60) = true := decide_eq_true (by omega)
    have dn3 : decide ((n3 : Nat) ≤ 12) = false := decide_eq_false (by omega)
    have zzn3 : decide (((n3 : Nat) : Int) ≤ 12) = false := decide_eq_false (by omega)
    clear hv
    go_enter Tryz.func10, Tryz.ntmps10
    go_wp2
    go_ret
    exact ⟨by rw [HV.out]; rfl, Below.refl _ _⟩
  cases hs : shortT l with
  | false =>
    have HSH := Lib.hid hs
    have HV : Hid (v = false) := Lib.hid (by rw [← hv]; exact decide_eq_false fun h => by rw [h.2.2.2.1] at hs; cases hs)
    have dn : decide ((n : Nat) ≤ 40) = true := decide_eq_true (by omega)
    have zzn : decide (((n : Nat) : Int) ≤ 40) = true := decide_eq_true (by omega)
    have dn2 : decide ((n2 : Nat) ≤ 60) = true := decide_eq_true (by omega)
    have zzn2 : decide (((n2 : Nat) : Int) ≤ 60) = true := decide_eq_true (by omega)
    have dn3 : decide ((n3 : Nat) ≤ 12) = true := decide_eq_true (by omega)
    have zzn3 : decide (((n3 : Nat) : Int) ≤ 12) = true := decide_eq_true (by omega)
    clear hv hs
    go_enter Tryz.func10, Tryz.ntmps10
    go_wp2_with fail
    refine (short_b TA.out HSH.out).mono ?_
    rintro e w1 ⟨rfl, hb⟩
    have HB := Lib.hid hb
    clear hb
    go_wp2
    go_ret
    exact ⟨by rw [HV.out]; rfl, HB.out⟩
  | true =>
    have HSH := Lib.hid hs
    by_cases h4 : n4 ≤ 8
    · have HV : Hid (v = true) := Lib.hid (by rw [← hv]; exact decide_eq_true ⟨h1, h2, h3, hs, h4⟩)
      have dn : decide ((n : Nat) ≤ 40) = true := decide_eq_true (by omega)
      have zzn : decide (((n : Nat) : Int) ≤ 40) = true := decide_eq_true (by omega)
      have dn2 : decide ((n2 : Nat) ≤ 60) = true := decide_eq_true (by omega)
      have zzn2 : decide (((n2 : Nat) : Int) ≤ 60) = true := decide_eq_true (by omega)
      have dn3 : decide ((n3 : Nat) ≤ 12) = true := decide_eq_true (by omega)
      have zzn3 : decide (((n3 : Nat) : Int) ≤ 12) = true := decide_eq_true (by omega)
      have dn4 : decide ((n4 : Nat) ≤ 8) = true := decide_eq_true (by omega)
      have zzn4 : decide (((n4 : Nat) : Int) ≤ 8) = true := decide_eq_true (by omega)
      clear hv hs
      go_enter Tryz.func10, Tryz.ntmps10
      go_wp2_with fail
      refine (short_b TA.out HSH.out).mono ?_
      rintro e w1 ⟨rfl, hb⟩
      have HB := Lib.hid hb
      clear hb
      go_wp2
      go_ret
      exact ⟨by rw [HV.out]; rfl, HB.out⟩
    · have HV : Hid (v = false) := Lib.hid (by rw [← hv]; exact decide_eq_false fun h => h4 h.2.2.2.2)
      have dn : decide ((n : Nat) ≤ 40) = true := decide_eq_true (by omega)
      have zzn : decide (((n : Nat) : Int) ≤ 40) = true := decide_eq_true (by omega)
      have dn2 : decide ((n2 : Nat) ≤ 60) = true := decide_eq_true (by omega)
      have zzn2 : decide (((n2 : Nat) : Int) ≤ 60) = true := decide_eq_true (by omega)
      have dn3 : decide ((n3 : Nat) ≤ 12) = true := decide_eq_true (by omega)
      have zzn3 : decide (((n3 : Nat) : Int) ≤ 12) = true := decide_eq_true (by omega)
      have dn4 : decide ((n4 : Nat) ≤ 8) = false := decide_eq_false (by omega)
      have zzn4 : decide (((n4 : Nat) : Int) ≤ 8) = false := decide_eq_false (by omega)
      clear hv hs
      go_enter Tryz.func10, Tryz.ntmps10
      go_wp2_with fail
      refine (short_b TA.out HSH.out).mono ?_
      rintro e w1 ⟨rfl, hb⟩
      have HB := Lib.hid hb
      clear hb
      go_wp2
      go_ret
      exact ⟨by rw [HV.out]; rfl, HB.out⟩
set_option maxRecDepth 100000 in
set_option maxHeartbeats 8000000 in
theorem allP_any (HD : HeldOk) (A : Option Addr) (n c : Nat) (l : Tb) (A2 : Option Addr) (n2 c2 : Nat) (more : Tb) (w : World) (hl : TAsk w A n c l) (hf : FewT l) (hm : TAsk w A2 n2 c2 more) (hs : ∀ y ∈ more, y.things.length ≤ 100) (hn : n + n2 ≤ 100) :
    Calls Tryz.prog 17 #[.slice A n c, .slice A2 n2 c2] w fun e w' => (∃ A1 n1 c1, e = .returned (.slice A1 n1 c1) ∧ TAsk w' A1 n1 c1 (allT l more) ∧ FewT (allT l more) ∧ (allT l more).length ≤ n + n2) ∧ Below w.heap.size w w' := by
  have HL := Lib.hid hl
  have HM := Lib.hid hm
  have HF := Lib.hid hf
  have HS := Lib.hid hs
  have HLN := Lib.hid hl.reads.len
  have HMN := Lib.hid hm.reads.len
  clear hl hf hm hs
  go_enter Tryz.func17, Tryz.ntmps17
  go_wp2
  go_loopw [5, 0] (fun iv lv wr => ∃ (k : Nat) (A1 : Option Addr) (n1 c1 : Nat), lv = .slice A1 n1 c1 ∧ k ≤ n2 ∧ iv = .int .i64 k ∧ TAsk wr A1 n1 c1 (allT l (more.take k)) ∧ (FewT (allT l (more.take k)) ∧ (allT l (more.take k)).length ≤ n + k) ∧ Below w.heap.size w wr) (fun iv _ _ => n2 - (intOf iv).toNat)
  case atStart => exact ⟨0, A, n, c, rfl, Nat.zero_le _, rfl, HL.out, ⟨HF.out, by show l.length ≤ n + 0; rw [HLN.out]; omega⟩, Below.refl _ _⟩
  case round =>
    obtain ⟨k, A1, n1, c1, rfl, hk, rfl, hto, hfo, hbel⟩ := hrel
    have TO := Lib.hid hto
    have HFO := Lib.hid hfo
    have HB := Lib.hid hbel
    have HM1 := Lib.hid (HM.out.next hbel)
    clear hto hfo hbel
    by_cases hlt : k < n2
    · have hkl : k < more.length := by rw [HMN.out]; exact hlt
      obtain ⟨b, off, A4, m4, c4, rfl, hb1, e0, e1, e2, e3, hh⟩ := HM1.out.reads.one hlt
      obtain ⟨x, hx⟩ : ∃ x, more.getD k hd0 = x := ⟨_, rfl⟩
      rw [hx] at e0 e2 e3 hh
      have hxm : x ∈ more := by rw [← hx]; exact getD_in hkl
      have HX := Lib.hid hh
      have HX100 : Hid (m4 ≤ 100) := Lib.hid (by rw [← hh.reads.1]; exact HS.out x hxm)
      have htk : more.take (k + 1) = more.take k ++ [x] := by rw [List.take_succ_eq_append_getElem hkl, ← hx, List.getD, List.getElem?_eq_getElem hkl]; rfl
      have HALL : Hid (allT l (more.take (k + 1)) = addT (allT l (more.take k)) x) := Lib.hid (by rw [htk]; unfold allT; rw [List.foldl_append]; rfl)
      have HFW := Lib.hid (addT_fewA HFO.out.1 (by have := HX100.out; rw [← hh.reads.1] at this; exact this) (by have := HFO.out.2; omega))
      have HC := Lib.hid (h10_add HD TO.out HFO.out.1 HX.out HX100.out rfl rfl)
      clear hx hxm hh htk hkl
      go_wp2_with fail
      refine HC.out.mono ?_
      rintro e w5 ⟨⟨A5, c5, rfl, hr5, hn5, hc5⟩, hb⟩
      have HB5 := Lib.hid (HB.out.trans (hb.mono HB.out.size))
      have HF5 : Hid (FewT (allT l (more.take (k + 1))) ∧ (allT l (more.take (k + 1))).length ≤ n + (k + 1)) := Lib.hid (by rw [HALL.out]; exact ⟨HFW.out.1, by have := HFW.out.2; have := HFO.out.2; omega⟩)
      have TO5 : Hid (TAsk w5 A5 (addT (allT l (more.take k)) x).length c5 (allT l (more.take (k + 1)))) := Lib.hid (by rw [HALL.out]; exact ⟨hr5, hn5, hc5, by have := HFW.out.2; have := HFO.out.2; unfold maxLen; omega⟩)
      clear hr5 hn5 hc5 hb HC e0 e1 e2 e3 hb1
      go_wp2
      go_roundw
      case rel => exact ⟨k + 1, A5, _, c5, rfl, by omega, by go_num, TO5.out, HF5.out, HB5.out⟩
      case measure => simp [intOf] <;> omega
    · have htk : more.take k = more := List.take_of_length_le (by rw [HMN.out]; omega)
      rw [htk] at TO HFO
      have HFE : Hid (FewT (allT l more) ∧ (allT l more).length ≤ n + n2) := Lib.hid ⟨HFO.out.1, by have := HFO.out.2; omega⟩
      clear htk
      go_wp2
      go_ret
      exact ⟨⟨A1, n1, c1, rfl, TO.out, HFE.out.1, HFE.out.2⟩, HB.out⟩

end Go.Proofs.YtchogijdkagiiaaGreatDoor

namespace Go.Proofs.YtchogijdkagiiaaGreatDoor

section
variable {g : Gr} {use : List Int} {ws r : List Wn} {now u policy depth : Int} {l l0 b k tab : Tb} {w : Wn} {h x y : Hd}
theorem pickR_len : ∀ (ws : List Wn) (l b k : Tb), (pickR g use now u policy depth l b k ws).1.length + (pickR g use now u policy depth l b k ws).2.1.length ≤ b.length + k.length + ws.length
  | [], l, b, k => by rw [pickR]; exact Nat.le_add_right _ _
  | w :: r, l, b, k => by
    have hc : (w :: r).length = r.length + 1 := rfl
    rcases pick_ways g use l k w now u policy depth with h1 | ⟨h1, h2, hp | ⟨hp, hf | ⟨hf, h0 | h0⟩⟩⟩ | ⟨h1, h2, h0 | h0⟩
    · rw [pickR_pass h1]; have := pickR_len r l b k; omega
    · rw [pickR_stop h1 h2 hp]; show b.length + k.length ≤ _; omega
    · rw [pickR_full h1 h2 hp hf]; have := pickR_len r l b k; omega
    · rw [pickR_keep h1 h2 hp hf h0]; have := pickR_len r (addT l (heldW g use l w now u)) b (k ++ [heldW g use l w now u]); rw [List.length_append, List.length_singleton] at this; omega
    · rw [pickR_errK h1 h2 hp hf h0]; exact Nat.zero_le _
    · rw [pickR_beg h1 h2 h0]; have := pickR_len r (addT l (heldW g use l w now u)) (b ++ [heldW g use l w now u]) k; rw [List.length_append, List.length_singleton] at this; omega
    · rw [pickR_errB h1 h2 h0]; exact Nat.zero_le _
theorem pickA_len : (pickA g use l ws now u policy depth).1.length + (pickA g use l ws now u policy depth).2.1.length ≤ ws.length := by
  unfold pickA
  split
  · have := pickR_len (g := g) (use := use) (now := now) (u := u) (policy := policy) (depth := depth) ws l [] []
    simpa using this
  · exact Nat.zero_le _
theorem pickA_things : ∀ y, y ∈ (pickA g use l ws now u policy depth).1 ∨ y ∈ (pickA g use l ws now u policy depth).2.1 → y.things.length ≤ g.length := by
  intro y hy
  by_cases h0 : (pickA g use l ws now u policy depth).2.2 = 0
  · obtain ⟨_, tab, hI⟩ := pickA_inv h0
    rcases hy with h1 | h1
    · exact (hI.begs y h1).2.few
    · exact (hI.keps y h1).2.few
  · obtain ⟨e1, e2⟩ := pickA_err h0
    rw [e1, e2] at hy
    rcases hy with h1 | h1 <;> cases h1
/-! PickBegins, PickKeeps -/
theorem inv_with (hI : PickInv g use ws now u policy depth l tab b k) (hr : RightT l) (hn : l.length + b.length ≤ 255) : RightT (allT l b) ∧ (∀ x, x ∈ allT l b ↔ x ∈ l ∨ x ∈ b) ∧ (allT l b).length = l.length + b.length :=
  allT_is hI.right b l hr hI.old hI.inb hI.idb hI.id0b hn
theorem inv_all (hI : PickInv g use ws now u policy depth l tab b k) (hr : RightT l) (hn : l.length + b.length + k.length ≤ 255) : (allT (allT l b) k).length = l.length + b.length + k.length := by
  obtain ⟨h1, h2, h3⟩ := inv_with hI hr (by omega)
  have := allT_is hI.right k (allT l b) h1 (fun x hx => ((h2 x).1 hx).elim (hI.old x) (hI.inb x)) hI.ink hI.idk (fun x hx y hy => ((h2 x).1 hx).elim (fun h => hI.id0k x h y hy) (fun h => hI.idbk x h y hy)) (by omega)
  rw [this.2.2, h3]
theorem beg_apart (hI : PickInv g use ws now u policy depth l tab b k) (hr : RightT l) (hh : h ∈ b) : apartB h.things (busyT l now h.to) = true := by
  have h1 := busy_sub hI.right hr hI.old (hI.inb h hh) (fun x hx => hI.id0b x hx h hh)
  rwa [(hI.begs h hh).1] at h1
theorem kep_apart (hI : PickInv g use ws now u policy depth l tab b k) (hr : RightT l) (hn : l.length + b.length ≤ 255) (hh : h ∈ k) : apartB h.things (busyT (allT l b) h.frm h.to) = true := by
  obtain ⟨h1, h2, _⟩ := inv_with hI hr hn
  exact busy_sub hI.right h1 (fun x hx => ((h2 x).1 hx).elim (hI.old x) (hI.inb x)) (hI.ink h hh) (fun x hx => ((h2 x).1 hx).elim (fun h' => hI.id0k x h' h hh) (fun h' => hI.idbk x h' h hh))
theorem clash_apart {a c : Hd} (hc : clashH a c = false) (ha : MayH a) (hb : MayH c) (h1 : a.frm < c.to) (h2 : c.frm < a.to) : apartB a.things c.things = true := by
  unfold clashH meetsZ at hc
  rw [decide_eq_true ⟨ha.2.2.2.1, hb.2.2.2.1, h1, h2⟩, Bool.true_and] at hc
  rw [apart_iff ha.2.1 hb.2.1]
  intro n hn1 hn2
  have := touch_iff.2 ⟨n, hn1, hn2⟩
  rw [hc] at this; cases this
theorem ids_ne (hi : Ids k) {i j : Nat} (h1 : i < k.length) (h2 : j < k.length) (h : i ≠ j) : (k.getD i hd0).id ≠ (k.getD j hd0).id := by
  have hp := List.pairwise_iff_getElem.1 hi
  rw [List.getD, List.getD, List.getElem?_eq_getElem h1, List.getElem?_eq_getElem h2]
  rcases Nat.lt_or_ge i j with h3 | h3
  · exact hp i j h1 h2 h3
  · exact fun e => hp j i h2 h1 (by omega) e.symm
theorem kep_pair (hI : PickInv g use ws now u policy depth l tab b k) {i j : Nat} (h1 : i < k.length) (h2 : j < k.length) (h : i ≠ j) (h3 : (k.getD i hd0).frm < (k.getD j hd0).to) (h4 : (k.getD j hd0).frm < (k.getD i hd0).to) : apartB (k.getD i hd0).things (k.getD j hd0).things = true :=
  clash_apart (hI.right.clash (hI.ink _ (getD_in h1)) (hI.ink _ (getD_in h2)) (ids_ne hI.idk h1 h2 h)) (hI.right.may _ (hI.ink _ (getD_in h1))) (hI.right.may _ (hI.ink _ (getD_in h2))) h3 h4
/-! PickOrder -/
theorem pickR_tail : ∀ (ws : List Wn) (l b k : Tb), (pickR g use now u policy depth l b k ws).2.2 = 0 → ∃ m, (pickR g use now u policy depth l b k ws).1 = b ++ m ∧ ∀ y ∈ m, ∃ v ∈ ws, v.id = y.id
  | [], l, b, k, _ => ⟨[], by rw [pickR, List.append_nil], fun y h => by cases h⟩
  | w :: r, l, b, k, h => by
    have more : ∀ {m : Tb}, (∀ y ∈ m, ∃ v ∈ r, v.id = y.id) → ∀ y ∈ m, ∃ v ∈ w :: r, v.id = y.id := fun hm y hy => by
      obtain ⟨v, h1, h2⟩ := hm y hy
      exact ⟨v, List.mem_cons_of_mem _ h1, h2⟩
    rcases pick_ways g use l k w now u policy depth with h1 | ⟨h1, h2, hp | ⟨hp, hf | ⟨hf, h0 | h0⟩⟩⟩ | ⟨h1, h2, h0 | h0⟩
    · rw [pickR_pass h1] at h ⊢
      obtain ⟨m, hm1, hm2⟩ := pickR_tail r _ _ _ h
      exact ⟨m, hm1, more hm2⟩
    · rw [pickR_stop h1 h2 hp]; exact ⟨[], (List.append_nil _).symm, fun y h => by cases h⟩
    · rw [pickR_full h1 h2 hp hf] at h ⊢
      obtain ⟨m, hm1, hm2⟩ := pickR_tail r _ _ _ h
      exact ⟨m, hm1, more hm2⟩
    · rw [pickR_keep h1 h2 hp hf h0] at h ⊢
      obtain ⟨m, hm1, hm2⟩ := pickR_tail r _ _ _ h
      exact ⟨m, hm1, more hm2⟩
    · rw [pickR_errK h1 h2 hp hf h0] at h; exact absurd h h0
    · rw [pickR_beg h1 h2 h0] at h ⊢
      obtain ⟨m, hm1, hm2⟩ := pickR_tail r _ _ _ h
      refine ⟨heldW g use l w now u :: m, by rw [hm1, List.append_assoc]; rfl, fun y hy => ?_⟩
      rcases List.mem_cons.1 hy with e | e
      · exact ⟨w, List.mem_cons_self .., by rw [e]; rfl⟩
      · exact more hm2 y e
    · rw [pickR_errB h1 h2 h0] at h; exact absurd h h0
/-- in the midst of a pick by Fcfs: n of those that begin have been met; or none is left -/
def OrdAt (g : Gr) (use : List Int) (now u : Int) (ws : List Wn) (B : Tb) (i n : Nat) (tab : Tb) (stopped : Bool) : Prop :=
  n = B.length ∨ (stopped = false ∧ n ≤ B.length ∧ (pickR g use now u 1 0 tab (B.take n) [] (ws.drop i)).1 = B ∧ (pickR g use now u 1 0 tab (B.take n) [] (ws.drop i)).2.2 = 0)
variable {B : Tb} {i n : Nat} {stopped : Bool}
theorem ord_end (h : OrdAt g use now u ws B ws.length n tab stopped) : n = B.length := by
  rcases h with h | ⟨_, h1, h2, _⟩
  · exact h
  · rw [List.drop_of_length_le (Nat.le_refl _), pickR] at h2
    have h3 : (B.take n).length = B.length := congrArg List.length h2
    rw [List.length_take] at h3
    omega
/-- met: it begins -/
theorem ord_hit (hi : i < ws.length) (hdist : ∀ a c, a < ws.length → c < ws.length → a ≠ c → (ws.getD a wn0).id ≠ (ws.getD c wn0).id) (h : OrdAt g use now u ws B i n tab stopped) (hn : n < B.length) (hid : (B.getD n hd0).id = (ws.getD i wn0).id) :
    stopped = false ∧ OrdAt g use now u ws B (i + 1) (n + 1) (addT tab (B.getD n hd0)) false := by
  rcases h with h | ⟨h1, h2, h3, h4⟩
  · omega
  refine ⟨h1, ?_⟩
  rw [wn_drop hi] at h3 h4
  have hdrop : ∀ m : Tb, B = B.take n ++ m → m = B.drop n := fun m hm => by
    have h5 : B.take n ++ B.drop n = B.take n ++ m := by rw [List.take_append_drop]; exact hm
    exact (List.append_cancel_left h5).symm
  have hin : B.getD n hd0 ∈ B.drop n := by
    rw [List.getD, List.getElem?_eq_getElem hn, List.drop_eq_getElem_cons hn]
    exact List.mem_cons_self ..
  have far : ∀ v ∈ ws.drop (i + 1), v.id ≠ (ws.getD i wn0).id := fun v hv => by
    obtain ⟨q, hq, e⟩ := List.getElem_of_mem hv
    rw [List.length_drop] at hq
    rw [List.getElem_drop] at e
    have := hdist (i + 1 + q) i (by omega) hi (by omega)
    rw [List.getD, List.getElem?_eq_getElem (by omega : i + 1 + q < ws.length)] at this
    rw [← e]; exact this
  rcases pick_ways g use tab [] (ws.getD i wn0) now u 1 0 with e1 | ⟨e1, e2, hp | ⟨hp, _⟩⟩ | ⟨e1, e2, h0 | h0⟩
  · rw [pickR_pass e1] at h3 h4
    obtain ⟨m, hm1, hm2⟩ := pickR_tail _ _ _ _ h4
    rw [h3] at hm1
    have := hdrop m hm1
    obtain ⟨v, hv, e⟩ := hm2 _ (by rw [this]; exact hin)
    exact absurd (e.trans hid) (far v hv)
  · rw [pickR_stop e1 e2 hp] at h3
    have h5 : (B.take n).length = B.length := congrArg List.length h3
    rw [List.length_take] at h5
    omega
  · exact absurd rfl hp
  · rw [pickR_beg e1 e2 h0] at h3 h4
    obtain ⟨m, hm1, hm2⟩ := pickR_tail _ _ _ _ h4
    rw [h3, List.append_assoc] at hm1
    have h5 := hdrop _ hm1
    have h6 : B.getD n hd0 = heldW g use tab (ws.getD i wn0) now u := by
      rw [List.drop_eq_getElem_cons hn] at h5
      have h7 := List.cons.inj h5
      rw [List.getD, List.getElem?_eq_getElem hn]
      exact h7.1.symm
    have h8 : B.take (n + 1) = B.take n ++ [heldW g use tab (ws.getD i wn0) now u] := by
      rw [← h6, List.take_succ_eq_append_getElem hn, List.getD, List.getElem?_eq_getElem hn]; rfl
    right
    rw [h8, h6]
    exact ⟨rfl, by omega, h3, h4⟩
  · rw [pickR_errB e1 e2 h0] at h4; exact absurd h4 h0
/-- not met: it has no slot, or none begins behind it -/
theorem ord_miss (hi : i < ws.length) (h : OrdAt g use now u ws B i n tab stopped) (hm : ¬ (n < B.length ∧ (B.getD n hd0).id = (ws.getD i wn0).id)) :
    OrdAt g use now u ws B (i + 1) n tab (stopped || firstBS g use tab (ws.getD i wn0).spec now u) := by
  rcases h with h | ⟨h1, h2, h3, h4⟩
  · exact .inl h
  rw [wn_drop hi] at h3 h4
  rcases pick_ways g use tab [] (ws.getD i wn0) now u 1 0 with e1 | ⟨e1, e2, hp | ⟨hp, _⟩⟩ | ⟨e1, e2, h0 | h0⟩
  · rw [pickR_pass e1] at h3 h4
    right
    rw [h1, e1]
    exact ⟨rfl, h2, h3, h4⟩
  · rw [pickR_stop e1 e2 hp] at h3
    have h5 : (B.take n).length = B.length := congrArg List.length h3
    rw [List.length_take] at h5
    exact .inl (by omega)
  · exact absurd rfl hp
  · refine absurd ?_ hm
    rw [pickR_beg e1 e2 h0] at h3 h4
    obtain ⟨m, hm1⟩ := pickR_more _ _ _ _ h4
    rw [h3, List.append_assoc] at hm1
    have hn : n < B.length := by
      have := congrArg List.length hm1
      rw [List.length_append, List.length_take, List.length_append, List.length_singleton] at this
      omega
    refine ⟨hn, ?_⟩
    have h5 : B.drop n = [heldW g use tab (ws.getD i wn0) now u] ++ m := by
      have h6 : B.take n ++ B.drop n = B.take n ++ ([heldW g use tab (ws.getD i wn0) now u] ++ m) := by rw [List.take_append_drop]; exact hm1
      exact List.append_cancel_left h6
    rw [List.drop_eq_getElem_cons hn] at h5
    have h7 := List.cons.inj h5
    rw [List.getD, List.getElem?_eq_getElem hn]
    show B[n].id = _
    rw [h7.1]; rfl
  · rw [pickR_errB e1 e2 h0] at h4; exact absurd h4 h0
theorem ord_start (hr : PickMay 1 0 l) (h0 : (pickA g use l ws now u 1 0).2.2 = 0) : OrdAt g use now u ws (pickA g use l ws now u 1 0).1 0 0 l false := by
  right
  unfold pickA at h0 ⊢
  rw [if_pos hr] at h0 ⊢
  rw [List.take_zero, List.drop_zero]
  exact ⟨rfl, Nat.zero_le _, rfl, h0⟩
/-! PickFirst -/
theorem pick_fcfs {d d' : Int} (hd : 0 ≤ d ∧ d ≤ 64) (hd' : 0 ≤ d' ∧ d' ≤ 64) (hp : policy = 1 ∨ policy = 2 ∨ policy = 3) : ((pickA g use l ws now u 1 d).2.2 ≠ 0 → (pickA g use l ws now u policy d').2.2 = (pickA g use l ws now u 1 d).2.2) ∧
    ((pickA g use l ws now u 1 d).2.2 = 0 → (pickA g use l ws now u policy d').2.2 = 0 → ∃ m, (pickA g use l ws now u policy d').1 = (pickA g use l ws now u 1 d).1 ++ m) := by
  cases hr : rightT l with
  | true =>
    have h1 : PickMay 1 d l := ⟨.inl rfl, hd.1, hd.2, hr⟩
    have h2 : PickMay policy d' l := ⟨hp, hd'.1, hd'.2, hr⟩
    unfold pickA
    rw [if_pos h1, if_pos h2]
    exact pickR_fcfs ws l [] d d'
  | false =>
    have h1 : ¬ PickMay 1 d l := fun h => by rw [h.2.2.2] at hr; cases hr
    have h2 : ¬ PickMay policy d' l := fun h => by rw [h.2.2.2] at hr; cases hr
    unfold pickA
    rw [if_neg h1, if_neg h2]
    exact ⟨fun _ => rfl, fun _ _ => ⟨[], rfl⟩⟩
/-! PickAlone -/
theorem alone_wrong (hr : rightT l = false) : pickA g use l ws now u policy depth = ([], [], 1) := if_neg fun h => by rw [h.2.2.2] at hr; cases hr
theorem alone_is (hm : PickMay policy depth l) : pickA g use l [w] now u policy depth = pickR g use now u policy depth l [] [] [w] := if_pos hm
theorem alone_no (hm : PickMay policy depth l) (h : firstBS g use l w.spec now u = false ∨ (firstAtS g use l w.spec now u ≠ now ∧ ¬ (policy = 2 ∨ (policy = 3 ∧ 0 < depth)))) : pickA g use l [w] now u policy depth = ([], [], 0) := by
  rw [alone_is hm]
  cases h1 : firstBS g use l w.spec now u with
  | false => rw [pickR_pass h1, pickR]
  | true =>
    rcases h with h | ⟨h2, h3⟩
    · rw [h1] at h; cases h
    have h4 : now < firstAtS g use l w.spec now u := by have := first_ge h1; omega
    by_cases hp : policy = 1
    · rw [pickR_stop h1 h4 hp]
    · have h5 : policy = 3 ∧ depth = 0 := by
        obtain ⟨h6, h7, _⟩ := hm
        omega
      rw [pickR_full h1 h4 hp (by unfold fullP; rw [h5.1, h5.2]; rfl), pickR]
theorem alone_there (hm : PickMay policy depth l) (hb : firstBS g use l w.spec now u = true) (hk : firstAtS g use l w.spec now u = now ∨ policy = 2 ∨ (policy = 3 ∧ 0 < depth)) (ht : hasT l w.id = true) : pickA g use l [w] now u policy depth = ([], [], 7) := by
  obtain ⟨z, e1, e2, hf⟩ := first_fits hb
  have h7 : addE l (heldW g use l w now u) = 7 := addE_there hm.2.2.2 (by
    have := got_may hf w.id
    unfold heldW
    rw [e1, e2]; exact this) ht
  rw [alone_is hm]
  by_cases h4 : now < firstAtS g use l w.spec now u
  · have hk2 : policy = 2 ∨ (policy = 3 ∧ 0 < depth) := hk.resolve_left (by omega)
    rw [pickR_errK hb h4 (by omega) (by unfold fullP; rw [decide_eq_false (by simp), decide_eq_false (by simp; omega)]; rfl) (by rw [h7]; decide), h7]
  · rw [pickR_errB hb h4 (by rw [h7]; decide), h7]
theorem alone_add (hm : PickMay policy depth l) (hl : l.length ≤ 30) (hb : firstBS g use l w.spec now u = true) (ht : hasT l w.id = false) : addE l (heldW g use l w now u) = 0 := by
  obtain ⟨z, e1, e2, hf⟩ := first_fits hb
  have e : heldW g use l w now u = ⟨w.id, gotS g use l w.spec u z, z, endsS w.spec z⟩ := by unfold heldW; rw [e1, e2]
  rw [e]
  rcases got_add hf hl w.id with h | h
  · exact h
  · exfalso
    have hmay := got_may hf w.id
    have h1 := addE_apart (h := ⟨w.id, gotS g use l w.spec u z, z, endsS w.spec z⟩) hm.2.2.2 hmay ht hl
    rw [apart_turn (gotS_right hf) (busy_right _ _) (gotS_apart hf), h] at h1
    cases h1
theorem alone_now (hm : PickMay policy depth l) (hl : l.length ≤ 30) (hb : firstBS g use l w.spec now u = true) (ht : hasT l w.id = false) (hn : firstAtS g use l w.spec now u = now) : pickA g use l [w] now u policy depth = ([heldW g use l w now u], [], 0) := by
  rw [alone_is hm, pickR_beg hb (by omega) (alone_add hm hl hb ht), pickR, List.nil_append]
theorem alone_kept (hm : PickMay policy depth l) (hl : l.length ≤ 30) (hb : firstBS g use l w.spec now u = true) (ht : hasT l w.id = false) (hn : firstAtS g use l w.spec now u ≠ now) (hk : policy = 2 ∨ (policy = 3 ∧ 0 < depth)) : pickA g use l [w] now u policy depth = ([], [heldW g use l w now u], 0) := by
  have h4 : now < firstAtS g use l w.spec now u := by have := first_ge hb; omega
  rw [alone_is hm, pickR_keep hb h4 (by omega) (by unfold fullP; rw [decide_eq_false (by simp), decide_eq_false (by simp; omega)]; rfl) (alone_add hm hl hb ht), pickR, List.nil_append]
end

end Go.Proofs.YtchogijdkagiiaaGreatDoor

namespace Go.Proofs.YtchogijdkagiiaaGreatDoor
open Go.RowKit

/-- the blocks that are neither row's own -/
def Off2 (wr : World) (v1 v2 : Value) : Nat → Prop := fun b => b < wr.heap.size ∧ v1.ownBlock ≠ some b ∧ v2.ownBlock ≠ some b
/-- what lay beside both rows is as it was, and beside both still -/
def Beside (wr : World) (v1 v2 : Value) (w' : World) (v1' v2' : Value) : Prop := ∀ b, Off2 wr v1 v2 b → w'.heap[b]? = wr.heap[b]? ∧ Off2 w' v1' v2' b
structure TwoQ {α : Type} (E : Elem α) (C : Nat) (t : TypeId) (w : World) (v1 v2 : Value) (xs ys : List α) (wr : World) : Prop where
  one : RowQ E C t (Off2 wr v1 v2) w.heap.size v1 xs wr
  two : RowQ E C t (Off2 wr v1 v2) w.heap.size v2 ys wr
  ne : ∀ b, v1.ownBlock = some b → v2.ownBlock ≠ some b
  below : Below w.heap.size w wr
section
variable {α : Type} {E : Elem α} {C B : Nat} {t : TypeId} {ok ok' : Nat → Prop} {v v' v1 v2 : Value} {xs ys : List α} {w wr w1 w2 : World}
theorem RowQ.keep2 (hE : Steady E) (h : RowQ E C t ok B v xs wr) (hk : ∀ b, ok b → w1.heap[b]? = wr.heap[b]?) (hv : ∀ b, v.ownBlock = some b → w1.heap[b]? = wr.heap[b]?) (hok : ∀ b, ok b → ok' b) : RowQ E C t ok' B v xs w1 := by
  obtain ⟨fl, h1, h2⟩ := h
  refine ⟨fl, ⟨h1.1, h1.2.imp id ?_⟩, fun j x hx => hE.keep (h2 j x hx) hk hok⟩
  rintro ⟨g, cap, cur, e1, e2, e3, e4⟩
  exact ⟨g, cap, cur, e1, e2, (hv g (by rw [e1]; rfl)).trans e3, e4⟩
theorem RowQ.snoc (hE : Steady E) {fl vs : List Value} {y : α} (h1 : wr.ownsRow B t C v ys.length fl) (hold : ∀ j x, ys[j]? = some x → E wr ok x ((fl.drop (j * C)).take C)) (hx : E wr ok y vs) (hvs : vs.length = C)
    (hown' : w2.ownsRow B t C v' (ys.length + 1) (fl ++ vs)) (hk : ∀ b, ok b → w2.heap[b]? = wr.heap[b]?) (hok : ∀ b, ok b → ok' b) : RowQ E C t ok' B v' (ys ++ [y]) w2 := by
  refine ⟨fl ++ vs, by rw [List.length_append]; exact hown', fun j x hj' => ?_⟩
  have hfll := h1.1
  rcases Nat.lt_trichotomy j ys.length with hj | hj | hj
  · rw [List.getElem?_append_left hj] at hj'
    have e := hE.keep (hold j x hj') hk hok
    have hlen : j * C + C ≤ fl.length := by rw [hfll, ← Nat.succ_mul]; exact Nat.mul_le_mul_right C hj
    rw [List.drop_append_of_le_length (by omega), List.take_append_of_le_length (by rw [List.length_drop]; omega)]
    exact e
  · subst hj
    rw [List.getElem?_append_right (Nat.le_refl _)] at hj'
    simp at hj'
    subst hj'
    rw [← hfll, List.drop_append_of_le_length (Nat.le_refl _), List.drop_length, List.nil_append, List.take_of_length_le (by omega)]
    exact hE.keep hx hk hok
  · rw [List.getElem?_eq_none (by rw [List.length_append]; simp; omega)] at hj'
    cases hj'
theorem TwoQ.nil (w : World) : TwoQ E C t w (.slice none 0 0) (.slice none 0 0) [] [] w :=
  ⟨⟨[], by simpa using World.ownsRow_nil w w.heap.size t C, fun j x h => by simp at h⟩, ⟨[], by simpa using World.ownsRow_nil w w.heap.size t C, fun j x h => by simp at h⟩, fun b h => (by cases h), Below.refl _ _⟩
theorem TwoQ.next (hE : Steady E) (h : TwoQ E C t w v1 v2 xs ys wr) (hb : Below wr.heap.size wr w1) : TwoQ E C t w v1 v2 xs ys w1 :=
  ⟨h.one.keep2 hE (fun b hb' => hb.block b hb'.1) (fun b e => hb.block b (h.one.own b e).2) (fun _ hb' => ⟨Nat.lt_of_lt_of_le hb'.1 hb.size, hb'.2⟩),
   h.two.keep2 hE (fun b hb' => hb.block b hb'.1) (fun b e => hb.block b (h.two.own b e).2) (fun _ hb' => ⟨Nat.lt_of_lt_of_le hb'.1 hb.size, hb'.2⟩),
   h.ne, h.below.trans (hb.mono h.below.size)⟩
theorem TwoQ.symm (hE : Steady E) (h : TwoQ E C t w v1 v2 xs ys wr) : TwoQ E C t w v2 v1 ys xs wr :=
  ⟨h.two.keep2 hE (fun _ _ => rfl) (fun _ _ => rfl) (fun _ hb => ⟨hb.1, hb.2.2, hb.2.1⟩), h.one.keep2 hE (fun _ _ => rfl) (fun _ _ => rfl) (fun _ hb => ⟨hb.1, hb.2.2, hb.2.1⟩), fun b h1 h2 => h.ne b h2 h1, h.below⟩
theorem TwoQ.on1 (hE : Steady E) (h : TwoQ E C t w v1 v2 xs ys wr) : ON E C t w v1 xs wr := h.one.on hE h.below fun _ hb => ⟨hb.1, hb.2.1⟩
theorem TwoQ.on2 (hE : Steady E) (h : TwoQ E C t w v1 v2 xs ys wr) : ON E C t w v2 ys wr := h.two.on hE h.below fun _ hb => ⟨hb.1, hb.2.2⟩
/-- 'l = append(l, x)' of the second row: x has been laid into a block of its own -/
theorem wpList_append_two2 {P : Program} {ops : Array Oper} {rest : List Oper} {o : Oper} {a : Act} {Q : Exit → Act → World → Prop} (hgd : o.guard = none) (s x : Operand) (ty : TypeId)
    (ho : o.op = .call { callee := .builtin .append, args := #[s, x], argTypes := #[ty, ty] })
    (hE : Steady E) (h : TwoQ E C t w v1 v2 xs ys wr) (i : TypeInfo) (z : Value) (bytes : Nat) (ht : P.underlying ty = some (.slice t)) (hi : P.info? t = some i) (hz : i.zero = some z)
    (hsize : i.size = C) (hby : i.bytes = bytes) (hzs : z.cells.size = C) (hsz : 0 < C)
    (hs : a.eval s = v2) (y : α) (cs : Array Value) (hx : a.eval x = .slice (some ⟨wr.heap.size, 0, none⟩) 1 1) (hl : cs.toList.length = C) (h1 : ∀ u ∈ cs.toList, u.oneCell' = true)
    (he : E wr (Off2 wr v1 v2) y cs.toList)
    (h63 : ys.length + 1 ≤ maxLen) (hbytes : (ys.length + 1) * bytes ≤ 140737488355328)
    (hk : ∀ v' w', TwoQ E C t w v1 v' xs (ys ++ [y]) w' → Beside wr v1 v2 w' v1 v' → wpList P ops Q rest (a.put o.dst v') w') : wpList P ops Q (o :: rest) a (wr.alloc (.cells cs t)) := by
  have hB := h.below
  obtain ⟨fl, h2, h4⟩ := h.two
  refine wpList_append_lies (wr.alloc (.cells cs t)) hgd s x ty ho w.heap.size t i z C bytes ht hi hz hsize hby hzs hsz v2 ys.length fl hs (h2.alloc _) ⟨wr.heap.size, 0, none⟩ 1 1 cs.toList hx (by rw [hl]; omega)
    (World.news_of_block (cs := cs) (t := t) (fr := (0, 0)) (heap_alloc_new wr _)) h1 (by omega) h63 hbytes (by have := hB.size; simp; omega) _ rfl ?_
  intro g cap w2 hown' hgrow hat hlt
  have hsz2 : wr.heap.size ≤ w2.heap.size := by have := hgrow.size; simp at this; omega
  have hkeep : ∀ b, b < wr.heap.size → v2.ownBlock ≠ some b → w2.heap[b]? = wr.heap[b]? := fun b hb hn => (hgrow.block b (by simp; omega) (fun e => hn e.symm)).trans (Below.heap_alloc wr _ b hb)
  have hat' : v2.ownBlock = some g ∨ wr.heap.size ≤ g := hat.imp id (fun e => by rw [e]; simp)
  have hoff : ∀ b, Off2 wr v1 v2 b → Off2 w2 v1 (.slice (some ⟨g, 0, none⟩) (ys.length + 1) cap) b := fun b hb => ⟨by have := hb.1; omega, hb.2.1, fun e => by
    have e' : g = b := by simpa [Value.ownBlock] using e
    subst e'
    rcases hat' with h' | h'
    · exact hb.2.2 h'
    · have := hb.1; omega⟩
  refine hk _ _ ?_ fun b hb => ⟨hkeep b hb.1 hb.2.2, hoff b hb⟩
  refine ⟨h.one.keep2 hE (fun b hb => hkeep b hb.1 hb.2.2) (fun b e => hkeep b (h.one.own b e).2 (h.ne b e)) hoff, RowQ.snoc hE h2 h4 he hl hown' (fun b hb => hkeep b hb.1 hb.2.2) hoff, fun b e e2 => ?_, (hB.alloc hB.size _).grown hgrow (by have := hB.size; simp; omega) (fun j hj => (h2.lt j hj).1)⟩
  have e' : g = b := by simpa [Value.ownBlock] using e2
  subst e'
  rcases hat' with h' | h'
  · exact h.ne _ e h'
  · have := (h.one.own _ e).2; omega
/-- the same, of the first row -/
theorem wpList_append_two1 {P : Program} {ops : Array Oper} {rest : List Oper} {o : Oper} {a : Act} {Q : Exit → Act → World → Prop} (hgd : o.guard = none) (s x : Operand) (ty : TypeId)
    (ho : o.op = .call { callee := .builtin .append, args := #[s, x], argTypes := #[ty, ty] })
    (hE : Steady E) (h : TwoQ E C t w v1 v2 xs ys wr) (i : TypeInfo) (z : Value) (bytes : Nat) (ht : P.underlying ty = some (.slice t)) (hi : P.info? t = some i) (hz : i.zero = some z)
    (hsize : i.size = C) (hby : i.bytes = bytes) (hzs : z.cells.size = C) (hsz : 0 < C)
    (hs : a.eval s = v1) (y : α) (cs : Array Value) (hx : a.eval x = .slice (some ⟨wr.heap.size, 0, none⟩) 1 1) (hl : cs.toList.length = C) (h1 : ∀ u ∈ cs.toList, u.oneCell' = true)
    (he : E wr (Off2 wr v1 v2) y cs.toList)
    (h63 : xs.length + 1 ≤ maxLen) (hbytes : (xs.length + 1) * bytes ≤ 140737488355328)
    (hk : ∀ v' w', TwoQ E C t w v' v2 (xs ++ [y]) ys w' → Beside wr v1 v2 w' v' v2 → wpList P ops Q rest (a.put o.dst v') w') : wpList P ops Q (o :: rest) a (wr.alloc (.cells cs t)) :=
  wpList_append_two2 hgd s x ty ho hE (h.symm hE) i z bytes ht hi hz hsize hby hzs hsz hs y cs hx hl h1 (hE.keep he (fun _ _ => rfl) fun _ hb => ⟨hb.1, hb.2.2, hb.2.1⟩) h63 hbytes fun v' w' h' hbs => hk v' w' (h'.symm hE) fun b hb => ⟨(hbs b ⟨hb.1, hb.2.2, hb.2.1⟩).1, let h2 := (hbs b ⟨hb.1, hb.2.2, hb.2.1⟩).2; ⟨h2.1, h2.2.2, h2.2.1⟩⟩
end

end Go.Proofs.YtchogijdkagiiaaGreatDoor

namespace Go.Proofs.YtchogijdkagiiaaGreatDoor
open Go.RowKit

section
variable {B B' g m c : Nat} {w0 wr : World} {v0 v1 v2 v3 : Value} {A : Option Addr} {x : Hd}
theorem below_store4 (hb : Below B w0 wr) (hg : B ≤ g) : Below B w0 ((((wr.setCell ⟨g, 0, none⟩ v0).setCell ⟨g, 1, none⟩ v1).setCell ⟨g, 2, none⟩ v2).setCell ⟨g, 3, none⟩ v3) :=
  (((hb.setCell (p := ⟨g, 0, none⟩) hg v0).setCell (p := ⟨g, 1, none⟩) hg v1).setCell (p := ⟨g, 2, none⟩) hg v2).setCell (p := ⟨g, 3, none⟩) hg v3
theorem BoxH.storeP4 (h0 : BoxH wr g hd0 none 0 0) (h : Hd) (A : Option Addr) (m c : Nat) : BoxH ((((wr.setCell ⟨g, 0, none⟩ (.int .i64 h.id)).setCell ⟨g, 1, none⟩ (.slice A m c)).setCell ⟨g, 2, none⟩ (.int .i64 h.frm)).setCell ⟨g, 3, none⟩ (.int .i64 h.to)) g h A m c :=
  (((h0.set (h' := ⟨h.id, [], 0, 0⟩) (A' := none) (m' := 0) (c' := 0) rfl).set (h' := ⟨h.id, [], 0, 0⟩) (A' := A) (m' := m) (c' := c) rfl).set (h' := ⟨h.id, [], h.frm, 0⟩) (A' := A) (m' := m) (c' := c) rfl).set (h' := h) (A' := A) (m' := m) (c' := c) rfl
/-- what lies in memory that was new when the rows were there lies beside them -/
theorem el_off (hr : RIN B wr A m x.things) (h1 : ∀ b, v1.ownBlock = some b → b < B) (h2 : ∀ b, v2.ownBlock = some b → b < B) (hnil : A = none → c = 0) (hcap : m ≤ c) (hfew : m ≤ maxLen) (hi : I64 x.id ∧ I64 x.frm ∧ I64 x.to ∧ ∀ n ∈ x.things, I64 n) :
    EH wr (Off2 wr v1 v2) x [.int .i64 x.id, .slice A m c, .int .i64 x.frm, .int .i64 x.to] :=
  ⟨A, m, c, rfl, RN.keep ei_steady hr (fun _ _ => rfl) (fun b hb => ⟨hb.2, fun e => by have := h1 b e; have := hb.1; omega, fun e => by have := h2 b e; have := hb.1; omega⟩), hnil, hcap, hfew, hi⟩
/-- a table that lies beside two rows of one's own -/
structure TabO (wr : World) (v1 v2 : Value) (A : Option Addr) (n c : Nat) (l : Tb) : Prop where
  reads : RN EH 4 wr (Off2 wr v1 v2) A n l
  nil : A = none → c = 0
  cap : n ≤ c
  few : n ≤ maxLen
variable {w1 w' : World} {v1' v2' : Value} {n : Nat} {l : Tb}
theorem TabO.ask (h : TabO wr v1 v2 A n c l) : TAsk wr A n c l := ⟨RN.keep eh_steady h.reads (fun _ _ => rfl) (fun _ hb => hb.1), h.nil, h.cap, h.few⟩
theorem TabO.next (h : TabO wr v1 v2 A n c l) (hb : Below wr.heap.size wr w1) : TabO w1 v1 v2 A n c l := ⟨RN.keep eh_steady h.reads (fun b hb' => hb.block b hb'.1) (fun _ hb' => ⟨Nat.lt_of_lt_of_le hb'.1 hb.size, hb'.2⟩), h.nil, h.cap, h.few⟩
theorem TabO.beside (h : TabO wr v1 v2 A n c l) (hb : Beside wr v1 v2 w' v1' v2') : TabO w' v1' v2' A n c l := ⟨RN.keep eh_steady h.reads (fun b hb' => (hb b hb').1) (fun b hb' => (hb b hb').2), h.nil, h.cap, h.few⟩
/-- in old memory, beside rows that are not there yet -/
theorem tabo_start (h : TAsk wr A n c l) : TabO wr (.slice none 0 0) (.slice none 0 0) A n c l := ⟨RN.keep eh_steady h.reads (fun _ _ => rfl) (fun _ hb => ⟨hb, fun e => (by cases e), fun e => (by cases e)⟩), h.nil, h.cap, h.few⟩
theorem off_new (h1 : ∀ b, v1.ownBlock = some b → b < B) (h2 : ∀ b, v2.ownBlock = some b → b < B) : ∀ b, B ≤ b → b < wr.heap.size → Off2 wr v1 v2 b :=
  fun b hb hl => ⟨hl, fun e => by have := h1 b e; omega, fun e => by have := h2 b e; omega⟩
/-- what a table beside two rows reaches -/
theorem tabo_p (h : TabO wr v1 v2 A n c l) : RN (EHp (fun b => v1.ownBlock ≠ some b ∧ v2.ownBlock ≠ some b)) 4 wr (Lt wr.heap.size) A n l := by
  refine ⟨h.reads.1, fun h0 => ?_⟩
  obtain ⟨b, off, e, hb, hc⟩ := h.reads.2 h0
  refine ⟨b, off, e, hb.1, fun j x hx => ?_⟩
  obtain ⟨vs, k1, k2, k3⟩ := hc j x hx
  exact ⟨vs, k1, k2, eh_steady.keep k3 (fun _ _ => rfl) (fun _ hq => ⟨hq.1, hq.2⟩)⟩
theorem rin_p {xs : List Int} (hr : RIN B wr A m xs) (h1 : ∀ b, v1.ownBlock = some b → b < B) (h2 : ∀ b, v2.ownBlock = some b → b < B) : RN EI 1 wr (fun b => b < wr.heap.size ∧ v1.ownBlock ≠ some b ∧ v2.ownBlock ≠ some b) A m xs :=
  RN.keep ei_steady hr (fun _ _ => rfl) (fun b hb => ⟨hb.2, fun e => by have := h1 b e; have := hb.1; omega, fun e => by have := h2 b e; have := hb.1; omega⟩)
/-- a table that was answered in new memory, or of what was there, lies beside them -/
theorem tabo_add {P : Nat → Prop} {w : World} {v : Value} {t : TypeId} (h : ON (EHp P) 4 t w v l wr) (h1 : ∀ b, v1.ownBlock = some b → b < w.heap.size) (h2 : ∀ b, v2.ownBlock = some b → b < w.heap.size) (hP : ∀ b, b < wr.heap.size → P b → Off2 wr v1 v2 b) (hl : l.length ≤ maxLen) :
    ∃ A c, v = .slice A l.length c ∧ TabO wr v1 v2 A l.length c l := by
  obtain ⟨A, c, rfl, hn, hc⟩ := h.form
  exact ⟨A, c, rfl, on_reads h rfl (off_new h1 h2) hP, hn, hc, hl⟩
/-- a part of a slice, from its beginning -/
theorem RT.take {w : World} {B n k : Nat} {A : Option Addr} {l : Tb} (h : RT w B A n l) (hk : k ≤ n) : RT w B A k (l.take k) := by
  refine ⟨by rw [List.length_take, h.1]; omega, fun h0 => ?_⟩
  obtain ⟨b, off, e, hb, hc⟩ := h.2 (by omega)
  refine ⟨b, off, e, hb, fun j x hx => hc j x ?_⟩
  have hj : j < k := by have := (List.getElem?_eq_some_iff.1 hx).1; rw [List.length_take] at this; omega
  rwa [List.getElem?_take_of_lt hj] at hx
/-- a table of one holding that a literal lays -/
theorem held_lit1 {w : World} {A : Option Addr} {m c : Nat} {h : Hd} (hh : HAsk w A m c h) : TAsk (w.alloc (.cells #[.int .i64 h.id, .slice A m c, .int .i64 h.frm, .int .i64 h.to] 41)) (some ⟨w.heap.size, 0, none⟩) 1 1 [h] := by
  refine ⟨⟨rfl, fun _ => ⟨w.heap.size, 0, rfl, by show w.heap.size < _; simp, fun j x hx => ?_⟩⟩, fun e => (by cases e), Nat.le_refl _, by decide⟩
  have hj : j = 0 := by have := (List.getElem?_eq_some_iff.1 hx).1; simp at this; omega
  subst hj
  have hx' : h = x := by simpa using hx
  subst hx'
  refine ⟨[.int .i64 h.id, .slice A m c, .int .i64 h.frm, .int .i64 h.to], rfl, fun i v hv => ?_, ?_⟩
  rotate_left
  · have h2 := HAsk.el hh ((Below.refl w.heap.size w).alloc (Nat.le_refl _) (.cells #[.int .i64 h.id, .slice A m c, .int .i64 h.frm, .int .i64 h.to] 41))
    exact eh_steady.keep h2 (fun _ _ => rfl) (fun b hb => by show b < _; simp; exact Nat.lt_succ_of_lt hb)
  · rw [World.cell?_alloc_at (w := w) _ _ w.heap.size _ rfl, Nat.zero_mul, Nat.zero_add, Nat.zero_add, ← Array.getElem?_toList]
    exact hv
end

end Go.Proofs.YtchogijdkagiiaaGreatDoor

namespace Go.Proofs.YtchogijdkagiiaaGreatDoor

theorem numsF_front (p : Nat → Bool) {a : Nat} : ∀ {n : Nat}, a ≤ n → ∃ r, numsF p n = numsF p a ++ r := by
  intro n
  induction n with
  | zero => intro h; obtain rfl : a = 0 := by omega
            exact ⟨[], by simp⟩
  | succ n ih =>
    intro h
    by_cases ha : a = n + 1
    · subst ha; exact ⟨[], by simp⟩
    · obtain ⟨r, hr⟩ := ih (by omega)
      exact ⟨r ++ (if p n = true then [(n : Int)] else []), by rw [numsF_succ, hr, List.append_assoc]⟩
theorem numsF_gap {p : Nat → Bool} {a : Nat} : ∀ {b : Nat}, a ≤ b → (∀ y, a ≤ y → y < b → p y = false) → numsF p b = numsF p a := by
  intro b
  induction b with
  | zero => intro h _; obtain rfl : a = 0 := by omega
            rfl
  | succ b ih =>
    intro h hg
    by_cases ha : a = b + 1
    · subst ha; rfl
    · rw [numsF_no (hg b (by omega) (by omega))]
      exact ih (by omega) (fun y h1 h2 => hg y h1 (by omega))
theorem cntP_gap {p : Nat → Bool} {a b : Nat} (h : a ≤ b) (hg : ∀ y, a ≤ y → y < b → p y = false) : cntP p b = cntP p a := by
  rw [← numsF_cnt, ← numsF_cnt, numsF_gap h hg]
theorem least_from (p : Nat → Bool) (m : Nat) : ∀ d, (∃ x, m ≤ x ∧ x < m + d ∧ p x = true ∧ ∀ y, m ≤ y → y < x → p y = false) ∨ (∀ y, m ≤ y → y < m + d → p y = false)
  | 0 => .inr (fun y h1 h2 => absurd h2 (by omega))
  | d + 1 => by
    rcases least_from p m d with ⟨x, h1, h2, h3⟩ | h
    · exact .inl ⟨x, h1, by omega, h3⟩
    · cases hp : p (m + d) with
      | true => exact .inl ⟨m + d, by omega, by omega, hp, h⟩
      | false => exact .inr (fun y h1 h2 => by
          by_cases hy : y = m + d
          · subst hy; exact hp
          · exact h y h1 (by omega))
/-- the next number of the list -/
theorem take_next {p : Nat → Bool} {n i m : Nat} (hi : i < (numsF p n).length) (ht : (numsF p n).take i = numsF p m) (hm : m ≤ n) :
    ∃ x, m ≤ x ∧ x < n ∧ (numsF p n).getD i 0 = (x : Int) ∧ p x = true ∧ (∀ y, m ≤ y → y < x → p y = false) ∧ (numsF p n).take (i + 1) = numsF p (x + 1) := by
  have hl : (numsF p m).length = i := by rw [← ht, List.length_take]; omega
  rcases least_from p m (n - m) with ⟨x, h1, h2, h3, h4⟩ | h
  · have hx : x < n := by omega
    obtain ⟨r, hr⟩ := numsF_front p (a := x + 1) (n := n) (by omega)
    have e : numsF p (x + 1) = numsF p m ++ [(x : Int)] := by rw [numsF_yes h3, numsF_gap h1 h4]
    refine ⟨x, h1, hx, ?_, h3, h4, ?_⟩
    · rw [hr, e, List.getD, List.append_assoc, List.getElem?_append_right (by omega), hl, Nat.sub_self]; rfl
    · rw [hr, List.take_append_of_le_length (by rw [e, List.length_append, hl]; simp), List.take_of_length_le (by rw [e, List.length_append, hl]; simp)]
  · have := numsF_gap (p := p) hm (fun y h1 h2 => h y h1 (by omega))
    rw [this] at hi
    omega
/-- behind the last one there is none -/
theorem take_end {p : Nat → Bool} {n m : Nat} (ht : numsF p n = numsF p m) (_ : m ≤ n) : ∀ y, m ≤ y → y < n → p y = false := by
  intro y h1 h2
  cases hp : p y with
  | false => rfl
  | true =>
    have : (y : Int) ∈ numsF p m := by rw [← ht]; exact mem_numsF_nat.2 ⟨h2, hp⟩
    have := (mem_numsF_nat.1 this).1
    omega

section
variable {g : Gr} {F : List Int} {s : Sp} {k : Nat}
/-- as far as thing m: the free cores and gpus under node k, and what is got there -/
theorem fr_gap {c : Int} {m x : Nat} (h : m ≤ x) (hg : ∀ y, m ≤ y → y < x → overG g k y = false) : frN g F c k x = frN g F c k m :=
  cntP_gap h fun y h1 h2 => by unfold frP; rw [hg y h1 h2]; rfl
theorem get_gap {m x : Nat} (h : m ≤ x) (hg : ∀ y, m ≤ y → y < x → overG g k y = false) : numsF (getP g F s k) x = numsF (getP g F s k) m :=
  numsF_gap h fun y h1 h2 => by unfold getP; rw [hg y h1 h2]; rfl
theorem fr_step {c : Int} {m x : Nat} (h : m ≤ x) (hg : ∀ y, m ≤ y → y < x → overG g k y = false) (ho : overG g k x = true) : frN g F c k (x + 1) = frN g F c k m + (if hasB F (x : Int) = true ∧ gk g x = c then 1 else 0) := by
  have h1 : frN g F c k (x + 1) = frN g F c k x + (if frP g F c k x = true then 1 else 0) := cntP_succ _ _
  rw [h1, fr_gap h hg]
  congr 1
  unfold frP
  rw [ho, Bool.true_and]
  by_cases hb : hasB F (x : Int) = true ∧ gk g x = c
  · rw [if_pos hb, if_pos (by rw [hb.1, hb.2]; simp)]
  · rw [if_neg hb, if_neg (by rw [Bool.and_eq_true, beq_iff_eq]; exact hb)]
theorem get_step {m x : Nat} (h : m ≤ x) (hg : ∀ y, m ≤ y → y < x → overG g k y = false) : numsF (getP g F s k) (x + 1) = numsF (getP g F s k) m ++ (if getP g F s k x = true then [(x : Int)] else []) := by
  rw [numsF_succ, get_gap h hg]
/-- what a spec gets in a node; nothing, where it doesn't suit -/
def getsL (g : Gr) (F : List Int) (s : Sp) (k : Nat) : List Int := if suitP g F s k = true then numsF (getP g F s k) g.length else []
end

end Go.Proofs.YtchogijdkagiiaaGreatDoor

namespace Go.Proofs.YtchogijdkagiiaaGreatDoor
open Go.RowKit

/-- a row that grows keeps all that is not its own -/
structure Keeps (wr : World) (v : Value) (w' : World) (v' : Value) : Prop where
  block : ∀ b, b < wr.heap.size → v.ownBlock ≠ some b → w'.heap[b]? = wr.heap[b]?
  size : wr.heap.size ≤ w'.heap.size
  own : v'.ownBlock = v.ownBlock ∨ ∀ b, v'.ownBlock = some b → wr.heap.size ≤ b
theorem Keeps.trans {w w1 w2 : World} {v v1 v2 : Value} (h : Keeps w v w1 v1) (k : Keeps w1 v1 w2 v2) : Keeps w v w2 v2 := by
  refine ⟨fun b hb hv => (k.block b (Nat.lt_of_lt_of_le hb h.size) (fun e => ?_)).trans (h.block b hb hv), Nat.le_trans h.size k.size, ?_⟩
  · rcases h.own with h1 | h1
    · exact hv (h1.symm.trans e)
    · have := h1 b e; omega
  · rcases k.own with h2 | h2
    · rcases h.own with h1 | h1
      · exact .inl (h2.trans h1)
      · exact .inr fun b hb => h1 b (by rw [← h2]; exact hb)
    · exact .inr fun b hb => Nat.le_trans h.size (h2 b hb)

/-- an owned row that reads as xs, in a world that keeps all that was there in w; what its elements reach was there in w -/
def OB {α : Type} (E : Elem α) (C : Nat) (t : TypeId) (w : World) (v : Value) (xs : List α) (wr : World) : Prop :=
  ∃ fl : List Value, wr.ownsRow w.heap.size t C v xs.length fl ∧ Below w.heap.size w wr ∧
    ∀ j x, xs[j]? = some x → E wr (Lt w.heap.size) x ((fl.drop (j * C)).take C)
section
variable {α : Type} {E : Elem α} {C : Nat} {t : TypeId} {w w1 w2 wr : World} {v v' v2 : Value} {xs ys : List α}
theorem OB.nil (w : World) (hb : Below w.heap.size w wr) : OB E C t w (.slice none 0 0) [] wr := ⟨[], by simpa using World.ownsRow_nil wr w.heap.size t C, hb, fun j x h => by simp at h⟩
theorem OB.below (h : OB E C t w v xs wr) : Below w.heap.size w wr := let ⟨_, _, h2, _⟩ := h; h2
theorem OB.on (hE : Steady E) (h : OB E C t w v xs wr) : ON E C t w v xs wr := by
  obtain ⟨fl, h1, h2, h3⟩ := h
  refine ⟨fl, h1, h2, fun j x hx => hE.keep (h3 j x hx) (fun _ _ => rfl) (fun b (hb : b < w.heap.size) => ⟨Nat.lt_of_lt_of_le hb h2.size, fun e => ?_⟩)⟩
  have := (h1.lt b e).1
  omega
/-- another row has grown, or new memory was made -/
theorem OB.keep (hE : Steady E) (h : OB E C t w v xs wr) (hb : Below w.heap.size w w1) (hk : ∀ g, v.ownBlock = some g → w1.heap[g]? = wr.heap[g]?) : OB E C t w v xs w1 := by
  obtain ⟨fl, h1, h2, h3⟩ := h
  refine ⟨fl, ⟨h1.1, h1.2.imp id ?_⟩, hb, fun j x hx => hE.keep (h3 j x hx) (fun b (hb' : b < w.heap.size) => (hb.block b hb').trans (h2.block b hb').symm) (fun _ hb' => hb')⟩
  rintro ⟨g, cap, cur, e1, e2, e3, e4⟩
  exact ⟨g, cap, cur, e1, e2, (hk g (by rw [e1]; rfl)).trans e3, e4⟩
theorem OB.next (hE : Steady E) (h : OB E C t w v xs wr) (hb : Below wr.heap.size wr w1) : OB E C t w v xs w1 :=
  h.keep hE (h.below.trans (hb.mono h.below.size)) fun g hg => by
    obtain ⟨fl, h1, _⟩ := h
    exact hb.block g (h1.lt g hg).2
/-- 'out = append(out, x)': x has been laid into a block of its own -/
theorem wpList_append_OB {P : Program} {ops : Array Oper} {rest : List Oper} {o : Oper} {a : Act} {Q : Exit → Act → World → Prop} (hgd : o.guard = none) (s x : Operand) (ty : TypeId)
    (ho : o.op = .call { callee := .builtin .append, args := #[s, x], argTypes := #[ty, ty] })
    (hE : Steady E) (h : OB E C t w v xs wr) (i : TypeInfo) (z : Value) (bytes : Nat) (ht : P.underlying ty = some (.slice t)) (hi : P.info? t = some i) (hz : i.zero = some z)
    (hsize : i.size = C) (hby : i.bytes = bytes) (hzs : z.cells.size = C) (hsz : 0 < C)
    (hs : a.eval s = v) (x0 : α) (cs : Array Value) (hx : a.eval x = .slice (some ⟨wr.heap.size, 0, none⟩) 1 1) (hl : cs.toList.length = C) (h1 : ∀ u ∈ cs.toList, u.oneCell' = true)
    (he : E wr (Lt w.heap.size) x0 cs.toList)
    (h63 : xs.length + 1 ≤ maxLen) (hbytes : (xs.length + 1) * bytes ≤ 140737488355328)
    (hk : ∀ v' w', OB E C t w v' (xs ++ [x0]) w' → Keeps wr v w' v' → wpList P ops Q rest (a.put o.dst v') w') : wpList P ops Q (o :: rest) a (wr.alloc (.cells cs t)) := by
  have hB := h.below
  obtain ⟨fl, h2, _, h4⟩ := id h
  refine wpList_append_lies (wr.alloc (.cells cs t)) hgd s x ty ho w.heap.size t i z C bytes ht hi hz hsize hby hzs hsz v xs.length fl hs (h2.alloc _) ⟨wr.heap.size, 0, none⟩ 1 1 cs.toList hx (by rw [hl]; omega)
    (World.news_of_block (cs := cs) (t := t) (fr := (0, 0)) (heap_alloc_new wr _)) h1 (by omega) h63 hbytes (by have := hB.size; simp; omega) _ rfl ?_
  intro g cap w2 hown' hgrow hat hlt
  have hsw : wr.heap.size ≤ w2.heap.size := by have := hgrow.size; simp at this; omega
  have hbel : Below w.heap.size w w2 := (hB.alloc hB.size _).grown hgrow (by have := hB.size; simp; omega) (fun j hj => (h2.lt j hj).1)
  refine hk _ _ ⟨fl ++ cs.toList, by rw [List.length_append]; exact hown', hbel, fun j y hy => ?_⟩ ⟨fun b hb hv => (hgrow.block b (by simp; omega) (fun e => hv e.symm)).trans (Below.heap_alloc wr _ b hb), hsw, ?_⟩
  · have keep : ∀ {y : α} {us : List Value}, E wr (Lt w.heap.size) y us → E w2 (Lt w.heap.size) y us := fun h => hE.keep h (fun b (hb : b < w.heap.size) => (hbel.block b hb).trans (hB.block b hb).symm) (fun _ hb => hb)
    have hfll := h2.1
    rcases Nat.lt_trichotomy j xs.length with hj | hj | hj
    · rw [List.getElem?_append_left hj] at hy
      have e := keep (h4 j y hy)
      have hlen : j * C + C ≤ fl.length := by rw [hfll, ← Nat.succ_mul]; exact Nat.mul_le_mul_right C hj
      rw [List.drop_append_of_le_length (by omega), List.take_append_of_le_length (by rw [List.length_drop]; omega)]
      exact e
    · subst hj
      rw [List.getElem?_append_right (Nat.le_refl _)] at hy
      simp at hy
      subst hy
      rw [← hfll, List.drop_append_of_le_length (Nat.le_refl _), List.drop_length, List.nil_append, List.take_of_length_le (by omega)]
      exact keep he
    · rw [List.getElem?_eq_none (by rw [List.length_append]; simp; omega)] at hy
      cases hy
  · rcases hat with h5 | h5
    · exact .inl h5.symm
    · refine .inr fun b hb => ?_
      have hb' : g = b := by simpa [Value.ownBlock] using hb
      rw [← hb', h5]; simp
end

end Go.Proofs.YtchogijdkagiiaaGreatDoor
