/- The reference's lists of a graph (bailiwickref05): Under, Above, Node, Whole: what they answer of any list of things. -/
import Derived.Test.YtnlgnpdajblfnaaGraphReads
import Derived.Test.YtnlgnpdajblfnaaNums
namespace Go.Proofs.Ytnlgnpdajblfnaa
open Go.RowKit

theorem refRightG_b {A : Option Addr} {n c : Nat} {g : Gr} {w : World} {b : Bool} (hr : RG w w.heap.size A n g) (hn : n ≤ maxLen) (h : rightG g = b) :
    Calls Try.prog 10 #[.slice A n c] w fun e w' => e = .returned (.bool b) ∧ Below w.heap.size w w' := by
  subst h; exact refRightG_any A n c g w hr hn




end Go.Proofs.Ytnlgnpdajblfnaa
