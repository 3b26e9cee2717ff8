/- The statement HeldApart of the landed program. No condition: every input. -/
import Derived.Test.YtbiofikijehlcaaZHeldApartCard
import Derived.Test.YtbiofikijehlcaaMg12
namespace Go.Proofs.Ytbiofikijehlcaa

theorem heldApart_said : Rows.HeldApartSaid := heldApart_holds heldOk_is

end Go.Proofs.Ytbiofikijehlcaa
