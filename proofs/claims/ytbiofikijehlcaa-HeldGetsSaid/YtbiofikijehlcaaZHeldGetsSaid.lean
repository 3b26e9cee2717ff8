/- The statement HeldGets of the landed program. No condition: every input. -/
import Derived.Test.YtbiofikijehlcaaZHeldGetsCard
import Derived.Test.YtbiofikijehlcaaMg12
namespace Go.Proofs.Ytbiofikijehlcaa

theorem heldGets_said : Rows.HeldGetsSaid := heldGets_holds heldOk_is

end Go.Proofs.Ytbiofikijehlcaa
