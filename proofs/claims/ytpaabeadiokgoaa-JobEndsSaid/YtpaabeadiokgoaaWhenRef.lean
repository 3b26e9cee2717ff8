/- The reference's Plus (bailiwickref02): a time and a length further on, at most Never; of any two numbers. -/
import Derived.Test.YtpaabeadiokgoaaWords
import Derived.LoopTactic
namespace Go.Proofs.Ytpaabeadiokgoaa
open Go.RowKit

def nearZ (x : Int) : Int := if x < 0 then 0 else if 4611686018427387904 < x then 4611686018427387904 else x
def plusZ (t l : Int) : Int := if 4611686018427387904 < nearZ t + nearZ l then 4611686018427387904 else nearZ t + nearZ l
theorem nearZ_range (x : Int) : 0 ≤ nearZ x ∧ nearZ x ≤ 4611686018427387904 := by unfold nearZ; repeat' split; all_goals omega



end Go.Proofs.Ytpaabeadiokgoaa
