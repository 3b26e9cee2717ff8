/- CodeOne: the statement as it is given, of the landed code, for every input. No condition. -/
import Derived.Test.YtlpogkcfjbabaaaMg16
import Derived.Test.YtlpogkcfjbabaaaZCodeOneCard
namespace Go.Proofs.Ytlpogkcfjbabaaa

theorem codeOne_said : Rows.CodeOneSaid := codeOne_holds codeOk_is

end Go.Proofs.Ytlpogkcfjbabaaa
