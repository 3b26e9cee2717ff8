/- Proved of the program: any job may be or not, and becomes, by whatever happens to it, what the document says; states have its names. The statement JobRight. No condition: every input. -/
import Derived.Test.YtpaabeadiokgoaaJobRightCard
import Derived.Test.YtpaabeadiokgoaaJobPOk
namespace Go.Proofs.Ytpaabeadiokgoaa

theorem jobRight_said : Rows.JobRightSaid := jobRight_holds jobOk_is

end Go.Proofs.Ytpaabeadiokgoaa
