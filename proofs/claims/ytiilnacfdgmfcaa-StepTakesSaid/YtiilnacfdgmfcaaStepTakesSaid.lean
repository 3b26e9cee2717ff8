/- StepTakes: the statement as it is given, of the landed code, for every input. No condition. -/
import Derived.Test.YtiilnacfdgmfcaaStepPOk
import Derived.Test.YtiilnacfdgmfcaaStepTakesCard
namespace Go.Proofs.Ytiilnacfdgmfcaa

theorem stepTakes_said : Rows.StepTakesSaid := stepTakes_holds stepOk_is

end Go.Proofs.Ytiilnacfdgmfcaa
