/- CodeApart: the statement as it is given, of the landed code, for every input. No condition. -/
import Derived.Test.YtlpogkcfjbabaaaMg16
import Derived.Test.YtlpogkcfjbabaaaZCodeApartCard
namespace Go.Proofs.Ytlpogkcfjbabaaa

theorem codeApart_said : Rows.CodeApartSaid := codeApart_holds codeOk_is

end Go.Proofs.Ytlpogkcfjbabaaa
