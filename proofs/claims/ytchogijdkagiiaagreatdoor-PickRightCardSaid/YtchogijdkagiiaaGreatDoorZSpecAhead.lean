/- The reference's Ahead of layer 7 (bailiwickref07): what it answers of any two specs. -/
import Derived.Test.YtchogijdkagiiaaGreatDoorZSpecRef2
namespace Go.Proofs.YtchogijdkagiiaaGreatDoor
open Go.RowKit

theorem refEnds_b {s : Sp} {a r : Int} {w : World} (hs : SAsk s) (ha : I64 a) (h : endsS s a = r) :
    Calls Tryz.prog 30 #[spV s, .int .i64 a] w fun e w' => e = .returned (.int .i64 r) ∧ Below w.heap.size w w' := by
  subst h
  obtain ⟨sn, sc, sg, st, sw, sl, sp⟩ := s
  exact refEndsV_any sn sc sg st sw sl sp a w hs ha

end Go.Proofs.YtchogijdkagiiaaGreatDoor
