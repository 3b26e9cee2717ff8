/- What the program's functions of layer 7 (spec) answer, as one list of contracts: the statements' walks lean on it alone. -/
import Derived.Test.YtggfacginheapaaSpecMem
import Derived.Test.YtggfacginheapaaGlob
namespace Go.Proofs.Ytggfacginheapaa
open Go.RowKit

structure SpecOk : Prop where
  right : ∀ (s : Sp) (w : World), SAsk s → Glob w → Calls Try.prog 10 #[spV s] w fun e w' => e = .returned (.bool (rightS s)) ∧ Below w.heap.size w w'
  asks : ∀ (s : Sp) (w : World), SAsk s → Glob w → Calls Try.prog 9 #[spV s] w fun e w' => e = .returned (.tuple #[.int .i64 (asksS s).1, .int .i64 (asksS s).2.1, .int .i64 (asksS s).2.2]) ∧ Below w.heap.size w w'
  ends : ∀ (s : Sp) (a : Int) (w : World), SAsk s → I64 a → Glob w → Calls Try.prog 12 #[spV s, .int .i64 a] w fun e w' => e = .returned (.int .i64 (endsS s a)) ∧ Below w.heap.size w w'
  ahead : ∀ (s t : Sp) (w : World), SAsk s → SAsk t → Glob w → Calls Try.prog 14 #[spV s, spV t] w fun e w' => e = .returned (.bool (aheadS s t)) ∧ Below w.heap.size w w'
  part : ∀ (s : Sp) (a : Int) (w : World), SAsk s → I64 a → Glob w → Calls Try.prog 11 #[spV s, .int .i64 a] w fun e w' => e = .returned (.tuple #[spV (partS s a).1, .int .i64 (partS s a).2]) ∧ Below w.heap.size w w'

section
variable (H : SpecOk) {s t : Sp} {w : World} (hs : SAsk s) (hG : Glob w)
include H hs hG
theorem s7_right {b : Bool} (h : rightS s = b) : Calls Try.prog 10 #[.agg #[.int .i64 s.nodes, .int .i64 s.cores, .int .i64 s.gpus, .string s.tag, .bool s.whole, .int .i64 s.long, .int .i64 s.prio]] w fun e w' => e = .returned (.bool b) ∧ Below w.heap.size w w' := by
  subst h; exact H.right s w hs hG
theorem s7_asks {n c g : Int} (h : asksS s = (n, c, g)) : Calls Try.prog 9 #[.agg #[.int .i64 s.nodes, .int .i64 s.cores, .int .i64 s.gpus, .string s.tag, .bool s.whole, .int .i64 s.long, .int .i64 s.prio]] w fun e w' => e = .returned (.tuple #[.int .i64 n, .int .i64 c, .int .i64 g]) ∧ Below w.heap.size w w' := by
  have := H.asks s w hs hG; rw [h] at this; exact this
theorem s7_ends {a r : Int} (ha : I64 a) (h : endsS s a = r) : Calls Try.prog 12 #[.agg #[.int .i64 s.nodes, .int .i64 s.cores, .int .i64 s.gpus, .string s.tag, .bool s.whole, .int .i64 s.long, .int .i64 s.prio], .int .i64 a] w fun e w' => e = .returned (.int .i64 r) ∧ Below w.heap.size w w' := by
  subst h; exact H.ends s a w hs ha hG
theorem s7_ahead {b : Bool} (ht : SAsk t) (h : aheadS s t = b) : Calls Try.prog 14 #[.agg #[.int .i64 s.nodes, .int .i64 s.cores, .int .i64 s.gpus, .string s.tag, .bool s.whole, .int .i64 s.long, .int .i64 s.prio], .agg #[.int .i64 t.nodes, .int .i64 t.cores, .int .i64 t.gpus, .string t.tag, .bool t.whole, .int .i64 t.long, .int .i64 t.prio]] w fun e w' => e = .returned (.bool b) ∧ Below w.heap.size w w' := by
  subst h; exact H.ahead s t w hs ht hG
theorem s7_part {a er : Int} {p : Sp} (ha : I64 a) (h : partS s a = (p, er)) : Calls Try.prog 11 #[.agg #[.int .i64 s.nodes, .int .i64 s.cores, .int .i64 s.gpus, .string s.tag, .bool s.whole, .int .i64 s.long, .int .i64 s.prio], .int .i64 a] w fun e w' => e = .returned (.tuple #[.agg #[.int .i64 p.nodes, .int .i64 p.cores, .int .i64 p.gpus, .string p.tag, .bool p.whole, .int .i64 p.long, .int .i64 p.prio], .int .i64 er]) ∧ Below w.heap.size w w' := by
  have := H.part s a w hs ha hG; rw [h] at this; exact this
end
theorem i64_of {x : Int} (h1 : -2000000000000 ≤ x) (h2 : x ≤ 2000000000000) : I64 x := by unfold I64; omega

end Go.Proofs.Ytggfacginheapaa
