/- The program's functions of layers 2 and 3 answer what the list of contracts says. -/
import Derived.Test.YtkhnlbkghjjdnaaStepPFirst
import Derived.Test.YtkhnlbkghjjdnaaStepPTake
namespace Go.Proofs.Ytkhnlbkghjjdnaa
open Go.RowKit

theorem stepOk_is : StepOk where
  right := fun A n c p w hr hn => stepRight_any A n c p w hr hn
  new := fun k w hk => stepNew_any k w hk
  at_ := fun A n c p t w hr hn _ => stepAtF_any A n c p t w hr hn
  take := fun A n c p a b k w hr hnil hnc hn _ _ _ => stepTake_any A n c p a b k w hr hnil hnc hn
  give := fun A n c p a b k w hr hnil hnc hn _ _ _ => stepGive_any A n c p a b k w hr hnil hnc hn
  first := fun A n c p a l k w hr hn _ hl _ => stepFirst_any A n c p a l k w hr hn hl.1 hl.2
  time := fun t w _ => bel_same (whenRight_any t w)
  plus := fun t l w _ _ => bel_same (whenPlus_any t l w)

end Go.Proofs.Ytkhnlbkghjjdnaa
