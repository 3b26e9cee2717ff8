/- What the program's functions of layer 15 (share) answer, as one list of contracts: the statements' walks lean on it alone. Written by gen/gen_share.py. -/
import Derived.Test.YtaehhafdodoljaaShareMem
import Derived.Test.YtaehhafdodoljaaNums
namespace Go.Proofs.Ytaehhafdodoljaa
open Go.RowKit

structure ShareOk : Prop where
  clean : ∀ (x : Nat) (w : World), W64 x → Calls Try.prog 10 #[.float .f64 x] w fun e w' => e = .returned (.float .f64 (cleanF x)) ∧ Below w.heap.size w w'
  fade : ∀ (x : Nat) (h : Int) (w : World), W64 x → I64 h → Calls Try.prog 12 #[.float .f64 x, .int .i64 h] w fun e w' => e = .returned (.float .f64 (fadeV x h)) ∧ Below w.heap.size w w'
  sum : ∀ (A : Option Addr) (n c : Nat) (l : List Nat) (w : World), FAsk w A n c l → n ≤ 200 → Calls Try.prog 14 #[.slice A n c] w fun e w' => e = .returned (.float .f64 (sumF l)) ∧ Below w.heap.size w w'
  share : ∀ (u : Us) (w : World), UsOk u → Calls Try.prog 16 #[.agg #[.int .i64 u.who, .float .f64 u.had, .float .f64 u.weight]] w fun e w' => e = .returned (.float .f64 (shareU u)) ∧ Below w.heap.size w w'
  order : ∀ (A : Option Addr) (n c : Nat) (l : List Us) (w : World), UAsk w A n c l → n ≤ 61 → Calls Try.prog 19 #[.slice A n c] w (IPost (orderU l) w)
  bonus : ∀ (A : Option Addr) (n c : Nat) (l : List Us) (who : Int) (w : World), UAsk w A n c l → I64 who → n ≤ 61 → Calls Try.prog 21 #[.slice A n c, .int .i64 who] w fun e w' => e = .returned (.int .i64 (bonusU l who)) ∧ Below w.heap.size w w'
/-- the contracts, with what is answered named ahead -/
theorem s15_v {P : Program} {f : FuncId} {args : Array Value} {w : World} {a b : Nat} (h : Calls P f args w fun e w' => e = .returned (.float .f64 a) ∧ Below w.heap.size w w') (e : a = b) : Calls P f args w fun e w' => e = .returned (.float .f64 b) ∧ Below w.heap.size w w' := by
  subst e; exact h
theorem s15_i {P : Program} {f : FuncId} {args : Array Value} {w : World} {a b : Int} (h : Calls P f args w fun e w' => e = .returned (.int .i64 a) ∧ Below w.heap.size w w') (e : a = b) : Calls P f args w fun e w' => e = .returned (.int .i64 b) ∧ Below w.heap.size w w' := by
  subst e; exact h
theorem s15_o {P : Program} {f : FuncId} {args : Array Value} {w : World} {a b : List Int} (h : Calls P f args w (IPost a w)) (e : a = b) : Calls P f args w (IPost b w) := by
  subst e; exact h

end Go.Proofs.Ytaehhafdodoljaa
