/- The statement PickBegins of layer 14, whole: the walk over the contracts, and that the program keeps them. No condition: every input, at the tables that the program's text lays. -/
import Derived.Test.YtchogijdkagiiaaGreatDoorZPickBeginsCard
import Derived.Test.YtchogijdkagiiaaGreatDoorMg16
namespace Go.Proofs.YtchogijdkagiiaaGreatDoor
open Go.RowKit

theorem pickBegins_said : Rows.PickBeginsCardSaid := pickBegins_card pickOk_is heldOk_is specOk_ends

end Go.Proofs.YtchogijdkagiiaaGreatDoor
