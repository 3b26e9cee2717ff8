/- HealthSets: the card of the statement as it is given, of the landed code, for every input, at the tables that the program's text lays. No condition. -/
import Derived.Test.YtnlgnpdajblfnaaDoorHealthPOk
import Derived.Test.YtnlgnpdajblfnaaDoorGraphPOk
import Derived.Test.YtnlgnpdajblfnaaDoorHealthSetsCard
namespace Go.Proofs.YtnlgnpdajblfnaaDoor

theorem healthSets_said : Rows.HealthSetsCardSaid := healthSets_card healthOk_is graphOk_is

end Go.Proofs.YtnlgnpdajblfnaaDoor
