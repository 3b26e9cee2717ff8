/- SpecParts: the statement as it is given, of the landed code, for every input. No condition. -/
import Derived.Test.YtggfacginheapaaSpecPOk
import Derived.Test.YtggfacginheapaaSpecPartsCard
namespace Go.Proofs.Ytggfacginheapaa

theorem specParts_said : Rows.SpecPartsSaid := specParts_holds specOk_is

end Go.Proofs.Ytggfacginheapaa
