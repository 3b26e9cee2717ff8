/- PoolsNew: the statement as it is given, of the landed code, for every input. No condition. -/
import Derived.Test.YtkhnlbkghjjdnaaPoolsPOk
import Derived.Test.YtkhnlbkghjjdnaaPoolsNewCard
namespace Go.Proofs.Ytkhnlbkghjjdnaa

theorem poolsNew_said : Rows.PoolsNewSaid := poolsNew_holds poolsOk_is

end Go.Proofs.Ytkhnlbkghjjdnaa
