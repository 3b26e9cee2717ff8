/- The statement SlotRight of layer 13, whole: the walk over the contracts, and that the program keeps them. No condition: every input, at the tables that the program's text lays. -/
import Derived.Test.YtpoalgkgomljmaaGreatDoorZSlotRightCard
import Derived.Test.YtpoalgkgomljmaaGreatDoorMg21
namespace Go.Proofs.YtpoalgkgomljmaaGreatDoor
open Go.RowKit

theorem slotRight_said : Rows.SlotRightCardSaid := slotRight_card slotOk_is

end Go.Proofs.YtpoalgkgomljmaaGreatDoor
