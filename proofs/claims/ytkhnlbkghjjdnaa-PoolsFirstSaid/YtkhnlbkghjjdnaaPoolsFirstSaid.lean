/- PoolsFirst: the statement as it is given, of the landed code, for every input. No condition. -/
import Derived.Test.YtkhnlbkghjjdnaaPoolsPOk
import Derived.Test.YtkhnlbkghjjdnaaPoolsFirstCard
namespace Go.Proofs.Ytkhnlbkghjjdnaa

theorem poolsFirst_said : Rows.PoolsFirstSaid := poolsFirst_holds poolsOk_is

end Go.Proofs.Ytkhnlbkghjjdnaa
