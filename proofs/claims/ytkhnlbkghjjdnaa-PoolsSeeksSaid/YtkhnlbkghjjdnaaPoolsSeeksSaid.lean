/- PoolsSeeks: the statement as it is given, of the landed code, for every input. No condition. -/
import Derived.Test.YtkhnlbkghjjdnaaPoolsPOk
import Derived.Test.YtkhnlbkghjjdnaaPoolsSeeksCard
namespace Go.Proofs.Ytkhnlbkghjjdnaa

theorem poolsSeeks_said : Rows.PoolsSeeksSaid := poolsSeeks_holds poolsOk_is

end Go.Proofs.Ytkhnlbkghjjdnaa
