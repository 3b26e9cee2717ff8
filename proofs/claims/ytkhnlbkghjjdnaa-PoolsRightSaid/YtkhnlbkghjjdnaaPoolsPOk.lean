/- The program's functions of layer 4 (pools) answer what the list of contracts says. -/
import Derived.Test.YtkhnlbkghjjdnaaPoolsPChange
import Derived.Test.YtkhnlbkghjjdnaaPoolsPFirst
namespace Go.Proofs.Ytkhnlbkghjjdnaa
open Go.RowKit

theorem poolsOk_is : PoolsOk where
  right := fun A n c ls w h => poolsRight_any A n c ls w h
  new := fun A n c xs w hr _ _ => poolsNew_any A n c xs w hr
  take := fun A n c A2 n2 c2 ls a b ns w h h2 _ _ => poolsTake_any A n c A2 n2 c2 ls a b ns w h h2
  give := fun A n c A2 n2 c2 ls a b ns w h h2 _ _ => poolsGive_any A n c A2 n2 c2 ls a b ns w h h2
  first := fun A n c A2 n2 c2 ls a l ns w h h2 _ hl => poolsFirst_any A n c A2 n2 c2 ls a l ns w h h2 hl
  at_ := fun A n c ls t w h _ => poolsAt_any A n c ls t w h

end Go.Proofs.Ytkhnlbkghjjdnaa
