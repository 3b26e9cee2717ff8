/- HealthAll: the statement as it is given, of the landed code, for every input. No condition. -/
import Derived.Test.YtnlgnpdajblfnaaHealthPOk
import Derived.Test.YtnlgnpdajblfnaaGraphPOk
import Derived.Test.YtnlgnpdajblfnaaHealthAllCard
namespace Go.Proofs.Ytnlgnpdajblfnaa

theorem healthAll_said : Rows.HealthAllSaid := healthAll_holds healthOk_is graphOk_is

end Go.Proofs.Ytnlgnpdajblfnaa
