/- What the program's functions of layer 11 (job) answer, as one list of contracts: the statements' walks lean on it alone. Written by gen/gen_joblaws.py. -/
import Derived.Test.YtpaabeadiokgoaaJobPost
namespace Go.Proofs.Ytpaabeadiokgoaa
open Go.RowKit

structure JobOk : Prop where
  right : ∀ (A : Option Addr) (m c : Nat) (j : Jb) (w : World), JAsk w A m c j → m ≤ 100 → Calls Try.prog 9 #[.agg #[.int .i64 j.id, .int .i64 j.spec.nodes, .int .i64 j.spec.cores, .int .i64 j.spec.gpus, .string j.spec.tag, .bool j.spec.whole, .int .i64 j.spec.long, .int .i64 j.spec.prio, .slice A m c, .int .i64 j.state, .int .i64 j.came, .int .i64 j.frm, .int .i64 j.to]] w (fun e w' => e = .returned (.bool (rightJ j)) ∧ Below w.heap.size w w')
  does : ∀ (A : Option Addr) (m c : Nat) (j : Jb) (what now : Int) (w : World), JAsk w A m c j → m ≤ 100 → I64 what → I64 now → Calls Try.prog 7 #[.agg #[.int .i64 j.id, .int .i64 j.spec.nodes, .int .i64 j.spec.cores, .int .i64 j.spec.gpus, .string j.spec.tag, .bool j.spec.whole, .int .i64 j.spec.long, .int .i64 j.spec.prio, .slice A m c, .int .i64 j.state, .int .i64 j.came, .int .i64 j.frm, .int .i64 j.to], .int .i64 what, .int .i64 now] w (JPost (doJ j what now) (doE j what now) w)
  over : ∀ (s : Int) (w : World), I64 s → Calls Try.prog 12 #[.int .i64 s] w (fun e w' => e = .returned (.bool (overJ s)) ∧ Below w.heap.size w w')
  name : ∀ (s : Int) (w : World), I64 s → Calls Try.prog 13 #[.int .i64 s] w (fun e w' => e = .returned (.string (nameJ s)) ∧ Below w.heap.size w w')

section
variable (H : JobOk) {A : Option Addr} {m c : Nat} {j : Jb} {w : World}
include H
theorem h11_right (hj : JAsk w A m c j) (hm : m ≤ 100) {v : Bool} (e : rightJ j = v) : Calls Try.prog 9 #[.agg #[.int .i64 j.id, .int .i64 j.spec.nodes, .int .i64 j.spec.cores, .int .i64 j.spec.gpus, .string j.spec.tag, .bool j.spec.whole, .int .i64 j.spec.long, .int .i64 j.spec.prio, .slice A m c, .int .i64 j.state, .int .i64 j.came, .int .i64 j.frm, .int .i64 j.to]] w fun e w' => e = .returned (.bool v) ∧ Below w.heap.size w w' := by
  subst e; exact H.right A m c j w hj hm
theorem h11_do (hj : JAsk w A m c j) (hm : m ≤ 100) {what now : Int} (hw : I64 what) (hn : I64 now) {j' : Jb} {er : Int} (e1 : doJ j what now = j') (e2 : doE j what now = er) : Calls Try.prog 7 #[.agg #[.int .i64 j.id, .int .i64 j.spec.nodes, .int .i64 j.spec.cores, .int .i64 j.spec.gpus, .string j.spec.tag, .bool j.spec.whole, .int .i64 j.spec.long, .int .i64 j.spec.prio, .slice A m c, .int .i64 j.state, .int .i64 j.came, .int .i64 j.frm, .int .i64 j.to], .int .i64 what, .int .i64 now] w (JPost j' er w) := by
  subst e1 e2; exact H.does A m c j what now w hj hm hw hn
theorem h11_over {s : Int} (hs : I64 s) {v : Bool} (e : overJ s = v) : Calls Try.prog 12 #[.int .i64 s] w fun e w' => e = .returned (.bool v) ∧ Below w.heap.size w w' := by
  subst e; exact H.over s w hs
theorem h11_name {s : Int} (hs : I64 s) {v : ByteArray} (e : nameJ s = v) : Calls Try.prog 13 #[.int .i64 s] w fun e w' => e = .returned (.string v) ∧ Below w.heap.size w w' := by
  subst e; exact H.name s w hs
end

end Go.Proofs.Ytpaabeadiokgoaa
