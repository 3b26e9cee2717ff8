/- The statement SlotKeeps of layer 13, whole: the walk over the contracts, and that the program keeps them. No condition: every input, at the tables that the program's text lays. -/
import Derived.Test.YtpoalgkgomljmaaGreatDoorZSlotKeepsCard
import Derived.Test.YtpoalgkgomljmaaGreatDoorMg21
import Derived.Test.YtpoalgkgomljmaaGreatDoorMg06
namespace Go.Proofs.YtpoalgkgomljmaaGreatDoor
open Go.RowKit

theorem slotKeeps_said : Rows.SlotKeepsCardSaid := slotKeeps_card slotOk_is heldOk_is specOk_ends (fun _ _ _ _ _ _ _ _ _ h1 h2 h3 h4 => part_any _ _ _ _ _ _ _ _ _ h1 h2 h3 h4)

end Go.Proofs.YtpoalgkgomljmaaGreatDoor
