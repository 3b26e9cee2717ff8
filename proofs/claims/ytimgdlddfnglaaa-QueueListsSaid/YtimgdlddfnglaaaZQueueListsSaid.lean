/- Proved of the program: who is ready, in which order, who is lost, and how many there are in each state, is what the document says. The statement QueueLists. No condition: every input. -/
import Derived.Test.YtimgdlddfnglaaaZQueueListsCard
import Derived.Test.YtimgdlddfnglaaaMg32
namespace Go.Proofs.Ytimgdlddfnglaaa

theorem queueLists_said : Rows.QueueListsSaid := queueLists_holds queueOk_is

end Go.Proofs.Ytimgdlddfnglaaa
