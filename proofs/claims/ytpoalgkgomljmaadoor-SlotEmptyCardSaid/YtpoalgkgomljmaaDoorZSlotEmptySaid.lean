/- The statement SlotEmpty of layer 13, whole: the walk over the contracts, and that the program keeps them. No condition: every input, at the tables that the program's text lays. -/
import Derived.Test.YtpoalgkgomljmaaDoorZSlotEmptyCard
import Derived.Test.YtpoalgkgomljmaaDoorMg16
namespace Go.Proofs.YtpoalgkgomljmaaDoor
open Go.RowKit

theorem slotEmpty_said : Rows.SlotEmptyCardSaid := slotEmpty_card slotOk_is

end Go.Proofs.YtpoalgkgomljmaaDoor
