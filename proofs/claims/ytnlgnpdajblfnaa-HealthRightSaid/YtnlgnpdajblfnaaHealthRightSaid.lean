/- HealthRight: the statement as it is given, of the landed code, for every input. No condition. -/
import Derived.Test.YtnlgnpdajblfnaaHealthPOk
import Derived.Test.YtnlgnpdajblfnaaHealthRightCard
namespace Go.Proofs.Ytnlgnpdajblfnaa

theorem healthRight_said : Rows.HealthRightSaid := healthRight_holds healthOk_is

end Go.Proofs.Ytnlgnpdajblfnaa
