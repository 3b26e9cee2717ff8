/- The statement HeldBack of the landed program. No condition: every input. -/
import Derived.Test.YtbiofikijehlcaaZHeldBackCard
import Derived.Test.YtbiofikijehlcaaMg12
namespace Go.Proofs.Ytbiofikijehlcaa

theorem heldBack_said : Rows.HeldBackSaid := heldBack_holds heldOk_is

end Go.Proofs.Ytbiofikijehlcaa
