/- The card of the statement HeldLater of the landed program. No condition: every input, at the tables that the program's text lays. -/
import Derived.Test.YtbiofikijehlcaaDoorMg06
import Derived.Test.YtbiofikijehlcaaDoorMg11
namespace Go.Proofs.YtbiofikijehlcaaDoor

theorem heldLater_said : Rows.HeldLaterCardSaid := heldLater_card heldOk_is

end Go.Proofs.YtbiofikijehlcaaDoor
