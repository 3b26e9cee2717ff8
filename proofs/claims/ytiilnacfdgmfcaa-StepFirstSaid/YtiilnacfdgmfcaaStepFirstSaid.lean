/- StepFirst: the statement as it is given, of the landed code, for every input. No condition. -/
import Derived.Test.YtiilnacfdgmfcaaStepPOk
import Derived.Test.YtiilnacfdgmfcaaStepFirstCard
namespace Go.Proofs.Ytiilnacfdgmfcaa

theorem stepFirst_said : Rows.StepFirstSaid := stepFirst_holds stepOk_is

end Go.Proofs.Ytiilnacfdgmfcaa
