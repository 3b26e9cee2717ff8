/- PoolsOne: the statement as it is given, of the landed code, for every input. No condition. -/
import Derived.Test.YtkhnlbkghjjdnaaPoolsPOk
import Derived.Test.YtkhnlbkghjjdnaaPoolsOneCard
namespace Go.Proofs.Ytkhnlbkghjjdnaa

theorem poolsOne_said : Rows.PoolsOneSaid := poolsOne_holds stepOk_is poolsOk_is

end Go.Proofs.Ytkhnlbkghjjdnaa
