/- Proved of the program: who is held and let go again is as it was; who is cancelled wherever it is has an end; no two states have one name. The statement JobFree. No condition: every input. -/
import Derived.Test.YtpaabeadiokgoaaJobFreeCard
import Derived.Test.YtpaabeadiokgoaaJobPOk
namespace Go.Proofs.Ytpaabeadiokgoaa

theorem jobFree_said : Rows.JobFreeSaid := jobFree_holds jobOk_is

end Go.Proofs.Ytpaabeadiokgoaa
