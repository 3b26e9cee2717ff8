/- The reference's Next, Do and Same of layer 11. Written by gen/gen_job.py. -/
import Derived.Test.YtpaabeadiokgoaaJobRefA
import Derived.Test.YtpaabeadiokgoaaJobPost
import Derived.Test.YtpaabeadiokgoaaSpecEq
namespace Go.Proofs.Ytpaabeadiokgoaa
open Go.RowKit

/-- the table of what leads where, row by row, place by place -/
theorem next_row {s : Int} (h1 : 0 ≤ s) (h2 : s ≤ 6) (W : World) : (Instr.index 55 (.agg #[.int .i64 1, .int .i64 (-1), .int .i64 2, .int .i64 (-1), .int .i64 (-1), .int .i64 5, .int .i64 6, .int .i64 (-1), .int .i64 0, .int .i64 (-1), .int .i64 (-1), .int .i64 (-1), .int .i64 5, .int .i64 6, .int .i64 (-1), .int .i64 (-1), .int .i64 (-1), .int .i64 3, .int .i64 4, .int .i64 5, .int .i64 (-1), .int .i64 (-1), .int .i64 (-1), .int .i64 (-1), .int .i64 (-1), .int .i64 (-1), .int .i64 (-1), .int .i64 (-1), .int .i64 (-1), .int .i64 (-1), .int .i64 (-1), .int .i64 (-1), .int .i64 (-1), .int .i64 (-1), .int .i64 (-1), .int .i64 (-1), .int .i64 (-1), .int .i64 (-1), .int .i64 (-1), .int .i64 (-1), .int .i64 (-1), .int .i64 (-1), .int .i64 (-1), .int .i64 (-1), .int .i64 (-1), .int .i64 (-1), .int .i64 (-1), .int .i64 (-1), .int .i64 (-1)]) (.int .i64 s)).run Try.prog W = .ok (.agg #[.int .i64 (nextZ s 1), .int .i64 (nextZ s 2), .int .i64 (nextZ s 3), .int .i64 (nextZ s 4), .int .i64 (nextZ s 5), .int .i64 (nextZ s 6), .int .i64 (nextZ s 7)]) W := by
  have hs : s = 0 ∨ s = 1 ∨ s = 2 ∨ s = 3 ∨ s = 4 ∨ s = 5 ∨ s = 6 := by omega
  rcases hs with rfl | rfl | rfl | rfl | rfl | rfl | rfl
  all_goals first | (show (_ : Res Value) = _; kernel_rfl) | rfl
theorem next_place {s a : Int} (h1 : 1 ≤ a) (h2 : a ≤ 7) (W : World) : (Instr.index 54 (.agg #[.int .i64 (nextZ s 1), .int .i64 (nextZ s 2), .int .i64 (nextZ s 3), .int .i64 (nextZ s 4), .int .i64 (nextZ s 5), .int .i64 (nextZ s 6), .int .i64 (nextZ s 7)]) (.int .i64 (a - 1))).run Try.prog W = .ok (.int .i64 (nextZ s a)) W := by
  have ha : a = 1 ∨ a = 2 ∨ a = 3 ∨ a = 4 ∨ a = 5 ∨ a = 6 ∨ a = 7 := by omega
  rcases ha with rfl | rfl | rfl | rfl | rfl | rfl | rfl
  all_goals first | (show (_ : Res Value) = _; kernel_rfl) | rfl
set_option maxRecDepth 100000 in
set_option maxHeartbeats 8000000 in
theorem refNext_any {s a : Int} {w : World} {v : Int} (h1 : 0 ≤ s) (h2 : s ≤ 6) (h3 : 1 ≤ a) (h4 : a ≤ 7) (h : nextZ s a = v) : Calls Try.prog 18 #[.int .i64 s, .int .i64 a] w fun e w' => e = .returned (.int .i64 v) ∧ Below w.heap.size w w' := by
  have x1 := next_row h1 h2
  have x2 := next_place (s := s) h3 h4
  go_enter Try.func18, Try.ntmps18
  go_wp2
  go_ret
  exact ⟨rfl, Below.refl _ _⟩
end Go.Proofs.Ytpaabeadiokgoaa
