/- CodePuts: the statement as it is given, of the landed code, for every input. No condition. -/
import Derived.Test.YtlpogkcfjbabaaaMg16
import Derived.Test.YtlpogkcfjbabaaaZCodePutsCard
namespace Go.Proofs.Ytlpogkcfjbabaaa

theorem codePuts_said : Rows.CodePutsSaid := codePuts_holds codeOk_is

end Go.Proofs.Ytlpogkcfjbabaaa
