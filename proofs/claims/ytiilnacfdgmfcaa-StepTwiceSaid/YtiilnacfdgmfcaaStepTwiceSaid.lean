/- StepTwice: the statement as it is given, of the landed code, for every input. No condition. -/
import Derived.Test.YtiilnacfdgmfcaaStepPOk
import Derived.Test.YtiilnacfdgmfcaaStepTwiceCard
namespace Go.Proofs.Ytiilnacfdgmfcaa

theorem stepTwice_said : Rows.StepTwiceSaid := stepTwice_holds stepOk_is

end Go.Proofs.Ytiilnacfdgmfcaa
