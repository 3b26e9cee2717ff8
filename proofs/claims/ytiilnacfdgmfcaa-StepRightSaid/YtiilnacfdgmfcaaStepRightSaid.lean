/- StepRight: the statement as it is given, of the landed code, for every input. No condition. -/
import Derived.Test.YtiilnacfdgmfcaaStepPOk
import Derived.Test.YtiilnacfdgmfcaaStepRightCard
namespace Go.Proofs.Ytiilnacfdgmfcaa

theorem stepRight_said : Rows.StepRightSaid := stepRight_holds stepOk_is

end Go.Proofs.Ytiilnacfdgmfcaa
