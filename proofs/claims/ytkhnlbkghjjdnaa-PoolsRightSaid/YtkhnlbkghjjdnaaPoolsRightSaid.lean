/- PoolsRight: the statement as it is given, of the landed code, for every input. No condition. -/
import Derived.Test.YtkhnlbkghjjdnaaPoolsPOk
import Derived.Test.YtkhnlbkghjjdnaaPoolsRightCard
namespace Go.Proofs.Ytkhnlbkghjjdnaa

theorem poolsRight_said : Rows.PoolsRightSaid := poolsRight_holds poolsOk_is

end Go.Proofs.Ytkhnlbkghjjdnaa
