/- What the program's functions of layer 5 (graph) answer: the list of contracts that the statements' walks lean on, held. -/
import Derived.Test.YtnlgnpdajblfnaaGraphPList
namespace Go.Proofs.Ytnlgnpdajblfnaa
open Go.RowKit

theorem graphOk_is : GraphOk where
  right := fun A n c g w h _ => graphRight_any A n c g w h.reads (ml300 h.few)
  tag := fun s w h _ => (tag_any s w h).mono fun _ _ ⟨h1, q, h2⟩ => ⟨h1, by rw [h2]; exact bel_drew w q⟩

end Go.Proofs.Ytnlgnpdajblfnaa
