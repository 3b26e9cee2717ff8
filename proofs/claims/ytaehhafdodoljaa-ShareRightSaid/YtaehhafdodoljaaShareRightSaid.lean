/- ShareRight holds of the program: any amount is cleaned, faded and added, any share told, bit by bit as the document says. No condition: every input. -/
import Derived.Test.YtaehhafdodoljaaSharePOk
import Derived.Test.YtaehhafdodoljaaShareRightCard
namespace Go.Proofs.Ytaehhafdodoljaa

theorem shareRight_said : Rows.ShareRightSaid := shareRight_holds shareOk_is

end Go.Proofs.Ytaehhafdodoljaa
