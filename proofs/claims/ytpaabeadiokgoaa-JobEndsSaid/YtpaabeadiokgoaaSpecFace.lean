/- What the program's functions of layer 7 (spec) answer, as one list of contracts: the statements' walks lean on it alone. -/
import Derived.Test.YtpaabeadiokgoaaSpecMem
import Derived.Test.YtpaabeadiokgoaaGlob
namespace Go.Proofs.Ytpaabeadiokgoaa
open Go.RowKit

structure SpecOk : Prop where
  right : ∀ (s : Sp) (w : World), SAsk s → Glob w → Calls Try.prog 19 #[spV s] w fun e w' => e = .returned (.bool (rightS s)) ∧ Below w.heap.size w w'

section
variable (H : SpecOk) {s t : Sp} {w : World} (hs : SAsk s) (hG : Glob w)
include H hs hG
theorem s7_right {b : Bool} (h : rightS s = b) : Calls Try.prog 19 #[.agg #[.int .i64 s.nodes, .int .i64 s.cores, .int .i64 s.gpus, .string s.tag, .bool s.whole, .int .i64 s.long, .int .i64 s.prio]] w fun e w' => e = .returned (.bool b) ∧ Below w.heap.size w w' := by
  subst h; exact H.right s w hs hG
end
theorem i64_of {x : Int} (h1 : -2000000000000 ≤ x) (h2 : x ≤ 2000000000000) : I64 x := by unfold I64; omega

end Go.Proofs.Ytpaabeadiokgoaa
