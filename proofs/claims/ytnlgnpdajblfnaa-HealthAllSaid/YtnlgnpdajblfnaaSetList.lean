/- What the words of a set list: the numbers of the set, rising, in new memory; the table of trailing zeros as Go's text lays it. -/
import Derived.Test.YtnlgnpdajblfnaaSetPack
namespace Go.Proofs.Ytnlgnpdajblfnaa
open Go.RowKit

theorem pred64 {x : Nat} (hx : U64 x) (h0 : 0 < x) : bits .and .u64 (x : Int) (IntKind.u64.wrap ((x : Int) - 1)) = ((x &&& (x - 1) : Nat) : Int) := by
  have hx' : x < 18446744073709551616 := hx
  have e : IntKind.u64.wrap ((x : Int) - 1) = ((x - 1 : Nat) : Int) := by rw [IntKind.wrap_u64]; omega
  rw [e]
  exact u64_and_nat x (x - 1) hx (by omega)


theorem pickN_len (p : Int → Bool) (k : Nat) : (pickN p 0 k).length ≤ k := length_pickN p k 0





end Go.Proofs.Ytnlgnpdajblfnaa
