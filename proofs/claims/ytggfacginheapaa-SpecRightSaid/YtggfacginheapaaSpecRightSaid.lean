/- SpecRight: the statement as it is given, of the landed code, for every input. No condition. -/
import Derived.Test.YtggfacginheapaaSpecPOk
import Derived.Test.YtggfacginheapaaSpecRightCard
namespace Go.Proofs.Ytggfacginheapaa

theorem specRight_said : Rows.SpecRightSaid := specRight_holds specOk_is

end Go.Proofs.Ytggfacginheapaa
