/- Proved of the program: whatever comes and happens, as time goes on, but that only what is ready begins: it stays a queue; who is lost stays lost till it ends; who has ended stays so. The statement QueueGrows. No condition: every input. -/
import Derived.Test.YtimgdlddfnglaaaZQueueGrowsCard
import Derived.Test.YtimgdlddfnglaaaMg32
namespace Go.Proofs.Ytimgdlddfnglaaa
open Go.RowKit

theorem overOk_is : OverOk := fun s w _ => (over_any s w).mono fun _ _ ⟨h1, h2⟩ => ⟨h1, by rw [← h2]; exact Below.refl _ _⟩

theorem queueGrows_said : Rows.QueueGrowsSaid := queueGrows_holds queueOk_is overOk_is

end Go.Proofs.Ytimgdlddfnglaaa
