/- The reference's functions of layer 7 (bailiwickref07): Ends, Ahead: what they answer of any spec. -/
import Derived.Deep.QuietTactic
import Derived.BigQuiet
import Derived.Test.YtimgdlddfnglaaaMg10
namespace Go.Proofs.Ytimgdlddfnglaaa
open Go.RowKit

theorem refRightS_b {s : Sp} {w : World} {b : Bool} (hs : SAsk s) (h : rightS s = b) :
    Calls Try.prog 43 #[spV s] w fun e w' => e = .returned (.bool b) ∧ Below w.heap.size w w' := by
  subst h
  obtain ⟨sn, sc, sg, st, sw, sl, sp⟩ := s
  exact refRightV_any sn sc sg st sw sl sp w hs.tag


end Go.Proofs.Ytimgdlddfnglaaa
