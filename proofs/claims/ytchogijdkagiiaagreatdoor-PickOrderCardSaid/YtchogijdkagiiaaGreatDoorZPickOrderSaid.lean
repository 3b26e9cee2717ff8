/- The statement PickOrder of layer 14, whole: the walk over the contracts, and that the program keeps them. No condition: every input, at the tables that the program's text lays. -/
import Derived.Test.YtchogijdkagiiaaGreatDoorZPickOrderCard
import Derived.Test.YtchogijdkagiiaaGreatDoorMg16
namespace Go.Proofs.YtchogijdkagiiaaGreatDoor
open Go.RowKit

theorem pickOrder_said : Rows.PickOrderCardSaid := pickOrder_card pickOk_is slotOk_is heldOk_is

end Go.Proofs.YtchogijdkagiiaaGreatDoor
