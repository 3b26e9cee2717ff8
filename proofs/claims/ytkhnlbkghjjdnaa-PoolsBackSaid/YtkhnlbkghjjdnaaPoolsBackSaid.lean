/- PoolsBack: the statement as it is given, of the landed code, for every input. No condition. -/
import Derived.Test.YtkhnlbkghjjdnaaPoolsPOk
import Derived.Test.YtkhnlbkghjjdnaaPoolsBackCard
namespace Go.Proofs.Ytkhnlbkghjjdnaa

theorem poolsBack_said : Rows.PoolsBackSaid := poolsBack_holds poolsOk_is

end Go.Proofs.Ytkhnlbkghjjdnaa
