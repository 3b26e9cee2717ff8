/- HealthWorse: the statement as it is given, of the landed code, for every input. No condition. -/
import Derived.Test.YtnlgnpdajblfnaaHealthPOk
import Derived.Test.YtnlgnpdajblfnaaHealthWorseCard
namespace Go.Proofs.Ytnlgnpdajblfnaa

theorem healthWorse_said : Rows.HealthWorseSaid := healthWorse_holds healthOk_is

end Go.Proofs.Ytnlgnpdajblfnaa
