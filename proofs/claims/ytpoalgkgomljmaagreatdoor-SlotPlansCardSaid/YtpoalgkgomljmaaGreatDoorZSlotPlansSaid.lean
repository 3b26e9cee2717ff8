/- The statement SlotPlans of layer 13, whole: the walk over the contracts, and that the program keeps them. No condition: every input, at the tables that the program's text lays. -/
import Derived.Test.YtpoalgkgomljmaaGreatDoorZSlotPlansCard
import Derived.Test.YtpoalgkgomljmaaGreatDoorMg21
namespace Go.Proofs.YtpoalgkgomljmaaGreatDoor
open Go.RowKit

theorem slotPlans_said : Rows.SlotPlansCardSaid := slotPlans_card slotOk_is

end Go.Proofs.YtpoalgkgomljmaaGreatDoor
