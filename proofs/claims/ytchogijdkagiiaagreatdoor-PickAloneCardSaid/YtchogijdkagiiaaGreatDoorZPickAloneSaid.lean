/- The statement PickAlone of layer 14, whole: the walk over the contracts, and that the program keeps them. No condition: every input, at the tables that the program's text lays. -/
import Derived.Test.YtchogijdkagiiaaGreatDoorZPickAloneCard
import Derived.Test.YtchogijdkagiiaaGreatDoorMg16
namespace Go.Proofs.YtchogijdkagiiaaGreatDoor
open Go.RowKit

theorem pickAlone_said : Rows.PickAloneCardSaid := pickAlone_card pickOk_is slotOk_is heldOk_is specOk_ends

end Go.Proofs.YtchogijdkagiiaaGreatDoor
