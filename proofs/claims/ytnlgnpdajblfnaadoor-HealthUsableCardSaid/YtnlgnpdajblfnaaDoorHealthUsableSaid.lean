/- HealthUsable: the card of the statement as it is given, of the landed code, for every input, at the tables that the program's text lays. No condition. -/
import Derived.Test.YtnlgnpdajblfnaaDoorHealthPOk
import Derived.Test.YtnlgnpdajblfnaaDoorGraphPOk
import Derived.Test.YtnlgnpdajblfnaaDoorHealthUsableCard
namespace Go.Proofs.YtnlgnpdajblfnaaDoor

theorem healthUsable_said : Rows.HealthUsableCardSaid := healthUsable_card healthOk_is graphOk_is

end Go.Proofs.YtnlgnpdajblfnaaDoor
