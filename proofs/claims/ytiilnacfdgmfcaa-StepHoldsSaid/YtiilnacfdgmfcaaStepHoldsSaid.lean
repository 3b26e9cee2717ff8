/- StepHolds: the statement as it is given, of the landed code, for every input. No condition. -/
import Derived.Test.YtiilnacfdgmfcaaStepPOk
import Derived.Test.YtiilnacfdgmfcaaStepHoldsCard
namespace Go.Proofs.Ytiilnacfdgmfcaa

theorem stepHolds_said : Rows.StepHoldsSaid := stepHolds_holds stepOk_is

end Go.Proofs.Ytiilnacfdgmfcaa
