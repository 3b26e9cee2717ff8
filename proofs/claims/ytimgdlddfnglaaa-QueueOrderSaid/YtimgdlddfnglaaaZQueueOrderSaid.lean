/- Proved of the program: who is ready waits, and all that it needs is done; of two the more urgent one is ahead, of one urgency the earlier one; nobody is ready and lost; who needs nothing is never lost. The statement QueueOrder. No condition: every input. -/
import Derived.Test.YtimgdlddfnglaaaZQueueOrderCard
import Derived.Test.YtimgdlddfnglaaaMg32
namespace Go.Proofs.Ytimgdlddfnglaaa

theorem queueOrder_said : Rows.QueueOrderSaid := queueOrder_holds queueOk_is

end Go.Proofs.Ytimgdlddfnglaaa
