/- ShareOrder holds of the program: the order tells each place once; no share is less than one ahead, and none is no number. No condition: every input. -/
import Derived.Test.YtaehhafdodoljaaSharePOk
import Derived.Test.YtaehhafdodoljaaShareOrderCard
namespace Go.Proofs.Ytaehhafdodoljaa

theorem shareOrder_said : Rows.ShareOrderSaid := shareOrder_holds shareOk_is

end Go.Proofs.Ytaehhafdodoljaa
