/- Proved of the program: whatever happens to a new job, as time goes on: it stays one that may be; it begins at most once; behind an end nothing happens to it any more. The statement JobEnds. No condition: every input. -/
import Derived.Test.YtpaabeadiokgoaaJobEndsCard
import Derived.Test.YtpaabeadiokgoaaJobPOk
namespace Go.Proofs.Ytpaabeadiokgoaa

theorem jobEnds_said : Rows.JobEndsSaid := jobEnds_holds jobOk_is

end Go.Proofs.Ytpaabeadiokgoaa
