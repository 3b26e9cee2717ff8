/- ShareRanks holds of the program: the order of any list, and anybody's bonus, is the document's. No condition: every input. -/
import Derived.Test.YtaehhafdodoljaaSharePOk
import Derived.Test.YtaehhafdodoljaaShareRanksCard
namespace Go.Proofs.Ytaehhafdodoljaa

theorem shareRanks_said : Rows.ShareRanksSaid := shareRanks_holds shareOk_is

end Go.Proofs.Ytaehhafdodoljaa
