/- What the program's functions of layer 5 (graph) answer: the list of contracts that the statements' walks lean on, held. -/
import Derived.Test.YtnlgnpdajblfnaaDoorGraphPList
import Derived.Test.YtnlgnpdajblfnaaDoorGraphPUnder
import Derived.Test.YtnlgnpdajblfnaaDoorGraphPWhole
namespace Go.Proofs.YtnlgnpdajblfnaaDoor
open Go.RowKit

theorem graphOk_is : GraphOk where
  right := fun A n c g w h _ => graphRight_any A n c g w h.reads (ml300 h.few)
  tag := fun s w h _ => (tag_any s w h).mono fun _ _ ⟨h1, q, h2⟩ => ⟨h1, by rw [h2]; exact bel_drew w q⟩
  under := fun A n c g a w h ha _ => under_any A n c g a w h ha
  above := fun A n c g a w h ha _ => above_any A n c g a w h ha
  whole := fun A n c A2 n2 c2 g l w h h2 _ => whole_any A n c A2 n2 c2 g l w h h2

end Go.Proofs.YtnlgnpdajblfnaaDoor
