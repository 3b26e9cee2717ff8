/- The statement SlotMore of layer 13, whole: the walk over the contracts, and that the program keeps them. No condition: every input, at the tables that the program's text lays. -/
import Derived.Test.YtpoalgkgomljmaaDoorZSlotMoreCard
import Derived.Test.YtpoalgkgomljmaaDoorMg16
namespace Go.Proofs.YtpoalgkgomljmaaDoor
open Go.RowKit

theorem slotMore_said : Rows.SlotMoreCardSaid := slotMore_card slotOk_is

end Go.Proofs.YtpoalgkgomljmaaDoor
