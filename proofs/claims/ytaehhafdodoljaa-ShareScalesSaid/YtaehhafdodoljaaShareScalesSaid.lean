/- ShareScales holds of the program: a share stays, when what was had and what is one's own are both doubled; who has had more of as much has no smaller share; a bonus counts others alone. No condition: every input. -/
import Derived.Test.YtaehhafdodoljaaSharePOk
import Derived.Test.YtaehhafdodoljaaShareScalesCard
namespace Go.Proofs.Ytaehhafdodoljaa

theorem shareScales_said : Rows.ShareScalesSaid := shareScales_holds shareOk_is

end Go.Proofs.Ytaehhafdodoljaa
