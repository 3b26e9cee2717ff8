/- CodeBack: the statement as it is given, of the landed code, for every input. No condition. -/
import Derived.Test.YtlpogkcfjbabaaaMg16
import Derived.Test.YtlpogkcfjbabaaaZCodeBackCard
namespace Go.Proofs.Ytlpogkcfjbabaaa

theorem codeBack_said : Rows.CodeBackSaid := codeBack_holds codeOk_is specOk_code

end Go.Proofs.Ytlpogkcfjbabaaa
