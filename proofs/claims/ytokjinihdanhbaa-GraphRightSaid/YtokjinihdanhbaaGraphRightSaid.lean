/- GraphRight: the statement as it is given, of the landed code, for every input. No condition. -/
import Derived.Test.YtokjinihdanhbaaGraphPOk
import Derived.Test.YtokjinihdanhbaaGraphRightCard
namespace Go.Proofs.Ytokjinihdanhbaa

theorem graphRight_said : Rows.GraphRightSaid := graphRight_holds graphOk_is

end Go.Proofs.Ytokjinihdanhbaa
