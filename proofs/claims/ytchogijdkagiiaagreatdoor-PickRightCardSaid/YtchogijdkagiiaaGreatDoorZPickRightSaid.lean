/- The statement PickRight of layer 14, whole: the walk over the contracts, and that the program keeps them. No condition: every input, at the tables that the program's text lays. -/
import Derived.Test.YtchogijdkagiiaaGreatDoorZPickRightCard
import Derived.Test.YtchogijdkagiiaaGreatDoorMg16
namespace Go.Proofs.YtchogijdkagiiaaGreatDoor
open Go.RowKit

theorem pickRight_said : Rows.PickRightCardSaid := pickRight_card pickOk_is

end Go.Proofs.YtchogijdkagiiaaGreatDoor
