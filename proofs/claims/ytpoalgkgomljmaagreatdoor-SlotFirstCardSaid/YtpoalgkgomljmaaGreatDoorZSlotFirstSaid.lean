/- The statement SlotFirst of layer 13, whole: the walk over the contracts, and that the program keeps them. No condition: every input, at the tables that the program's text lays. -/
import Derived.Test.YtpoalgkgomljmaaGreatDoorZSlotFirstCard
import Derived.Test.YtpoalgkgomljmaaGreatDoorMg21
namespace Go.Proofs.YtpoalgkgomljmaaGreatDoor
open Go.RowKit

theorem slotFirst_said : Rows.SlotFirstCardSaid := slotFirst_card slotOk_is heldOk_is matchOk_is specOk_ends

end Go.Proofs.YtpoalgkgomljmaaGreatDoor
