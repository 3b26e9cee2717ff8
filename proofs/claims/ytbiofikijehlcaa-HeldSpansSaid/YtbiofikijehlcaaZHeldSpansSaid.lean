/- The statement HeldSpans of the landed program. No condition: every input. -/
import Derived.Test.YtbiofikijehlcaaZHeldSpansCard
import Derived.Test.YtbiofikijehlcaaMg12
namespace Go.Proofs.Ytbiofikijehlcaa

theorem heldSpans_said : Rows.HeldSpansSaid := heldSpans_holds heldOk_is

end Go.Proofs.Ytbiofikijehlcaa
