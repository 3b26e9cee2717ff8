/- Proved of the program: a job that comes changes no other one; it waits, came now, and is ready just if all that it needs is done. The statement QueueAdds. No condition: every input. -/
import Derived.Test.YtimgdlddfnglaaaZQueueAddsCard
import Derived.Test.YtimgdlddfnglaaaMg32
namespace Go.Proofs.Ytimgdlddfnglaaa

theorem queueAdds_said : Rows.QueueAddsSaid := queueAdds_holds queueOk_is

end Go.Proofs.Ytimgdlddfnglaaa
