/- The reference's Ahead of layer 7 (bailiwickref07): what it answers of any two specs. -/
import Derived.Test.YtpoalgkgomljmaaGreatDoorZSpecRef2
namespace Go.Proofs.YtpoalgkgomljmaaGreatDoor
open Go.RowKit

theorem ahead_first {x y : Sp} (h : rightS x = false) : aheadS x y = false := by unfold aheadS; rw [h, Bool.false_and]
theorem ahead_second {x y : Sp} (h : rightS y = false) : aheadS x y = false := by unfold aheadS; rw [h, Bool.false_and, Bool.and_false]
theorem ahead_form {x y : Sp} (h : rightS x = true) (h2 : rightS y = true) : aheadS x y = (if x.prio ≠ y.prio then decide (y.prio < x.prio) else if x.nodes * x.cores + x.nodes * x.gpus ≠ y.nodes * y.cores + y.nodes * y.gpus then decide (x.nodes * x.cores + x.nodes * x.gpus < y.nodes * y.cores + y.nodes * y.gpus) else decide (x.long < y.long)) := by
  unfold aheadS sizeS; rw [h, h2]; rfl
theorem refEnds_b {s : Sp} {a r : Int} {w : World} (hs : SAsk s) (ha : I64 a) (h : endsS s a = r) :
    Calls Tryz.prog 32 #[spV s, .int .i64 a] w fun e w' => e = .returned (.int .i64 r) ∧ Below w.heap.size w w' := by
  subst h
  obtain ⟨sn, sc, sg, st, sw, sl, sp⟩ := s
  exact refEndsV_any sn sc sg st sw sl sp a w hs ha

end Go.Proofs.YtpoalgkgomljmaaGreatDoor
