/- SpecEnds: the statement as it is given, of the landed code, for every input. No condition. -/
import Derived.Test.YtggfacginheapaaSpecPOk
import Derived.Test.YtggfacginheapaaSpecEndsCard
namespace Go.Proofs.Ytggfacginheapaa

theorem specEnds_said : Rows.SpecEndsSaid := specEnds_holds specOk_is

end Go.Proofs.Ytggfacginheapaa
