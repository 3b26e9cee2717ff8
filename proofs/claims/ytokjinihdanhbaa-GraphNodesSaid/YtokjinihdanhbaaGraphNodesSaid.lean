/- GraphNodes: the statement as it is given, of the landed code, for every input. No condition. -/
import Derived.Test.YtokjinihdanhbaaGraphPOk
import Derived.Test.YtokjinihdanhbaaGraphNodesCard
namespace Go.Proofs.Ytokjinihdanhbaa

theorem graphNodes_said : Rows.GraphNodesSaid := graphNodes_holds graphOk_is

end Go.Proofs.Ytokjinihdanhbaa
