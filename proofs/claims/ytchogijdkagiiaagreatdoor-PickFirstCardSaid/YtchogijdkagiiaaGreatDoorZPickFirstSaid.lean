/- The statement PickFirst of layer 14, whole: the walk over the contracts, and that the program keeps them. No condition: every input, at the tables that the program's text lays. -/
import Derived.Test.YtchogijdkagiiaaGreatDoorZPickFirstCard
import Derived.Test.YtchogijdkagiiaaGreatDoorMg16
namespace Go.Proofs.YtchogijdkagiiaaGreatDoor
open Go.RowKit

theorem pickFirst_said : Rows.PickFirstCardSaid := pickFirst_card pickOk_is

end Go.Proofs.YtchogijdkagiiaaGreatDoor
