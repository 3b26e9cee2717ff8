/- The statement PickKeeps of layer 14, whole: the walk over the contracts, and that the program keeps them. No condition: every input, at the tables that the program's text lays. -/
import Derived.Test.YtchogijdkagiiaaGreatDoorZPickKeepsCard
import Derived.Test.YtchogijdkagiiaaGreatDoorMg16
namespace Go.Proofs.YtchogijdkagiiaaGreatDoor
open Go.RowKit

theorem pickKeeps_said : Rows.PickKeepsCardSaid := pickKeeps_card pickOk_is heldOk_is

end Go.Proofs.YtchogijdkagiiaaGreatDoor
