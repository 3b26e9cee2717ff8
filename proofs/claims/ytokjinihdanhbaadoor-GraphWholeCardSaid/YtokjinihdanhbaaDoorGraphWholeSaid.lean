/- GraphWhole: the card of the statement as it is given, of the landed code, for every input, at the tables that the program's text lays. No condition. -/
import Derived.Test.YtokjinihdanhbaaDoorGraphPOk
import Derived.Test.YtokjinihdanhbaaDoorGraphWholeCard
namespace Go.Proofs.YtokjinihdanhbaaDoor

theorem graphWhole_said : Rows.GraphWholeCardSaid := graphWhole_card graphOk_is

end Go.Proofs.YtokjinihdanhbaaDoor
