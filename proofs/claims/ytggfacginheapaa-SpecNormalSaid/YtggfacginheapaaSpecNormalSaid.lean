/- SpecNormal: the statement as it is given, of the landed code, for every input. No condition. -/
import Derived.Test.YtggfacginheapaaSpecPOk
import Derived.Test.YtggfacginheapaaSpecNormalCard
namespace Go.Proofs.Ytggfacginheapaa

theorem specNormal_said : Rows.SpecNormalSaid := specNormal_holds specOk_is

end Go.Proofs.Ytggfacginheapaa
