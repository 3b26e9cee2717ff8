/- The program's share keeps its contracts. Written by gen/gen_sharep.py. -/
import Derived.Test.YtaehhafdodoljaaSharePBonus
import Derived.Test.YtaehhafdodoljaaSharePOrder
namespace Go.Proofs.Ytaehhafdodoljaa
open Go.RowKit

theorem shareOk_is : ShareOk where
  clean x w hx := clean_any x w hx
  fade x h w hx hh := fade_any x h w hx hh
  sum A n c l w hl _ := sum_any A n c l w hl
  share u w hu := share_any u w hu
  order A n c l w hl hn := order_any A n c l w hl (by omega)
  bonus A n c l who w hl _ hn := bonus_any A n c l who w hl (by omega)

end Go.Proofs.Ytaehhafdodoljaa
