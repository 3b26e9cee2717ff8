/- GraphUnder: the statement as it is given, of the landed code, for every input. No condition. -/
import Derived.Test.YtokjinihdanhbaaGraphPOk
import Derived.Test.YtokjinihdanhbaaGraphUnderCard
namespace Go.Proofs.Ytokjinihdanhbaa

theorem graphUnder_said : Rows.GraphUnderSaid := graphUnder_holds graphOk_is

end Go.Proofs.Ytokjinihdanhbaa
