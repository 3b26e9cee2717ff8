/- What the program's functions of layer 4 (pools) answer, as one list of contracts: the statements' walks lean on it alone. -/
import Derived.Test.YtkhnlbkghjjdnaaPoolsChange
import Derived.Test.YtkhnlbkghjjdnaaPoolsRefFirst
namespace Go.Proofs.Ytkhnlbkghjjdnaa
open Go.RowKit

def newPP (xs : List Int) : List (List (Int × Int)) × Int := if 1 ≤ xs.length ∧ xs.length ≤ 4 ∧ ∀ j, j < xs.length → 0 ≤ xs.getD j 0 ∧ xs.getD j 0 ≤ 1048576 then (xs.map (fun k => [(0, k)]), 0) else ([], 1)
def atPP (ls : List (List (Int × Int))) (t : Int) : List Int := if rightPP ls = true then ls.map (fun p => atR p t) else []
/-- numbers, read from whatever memory; all that was there is kept -/
def IPost (l : List Int) (w : World) (e : Ending) (w' : World) : Prop :=
  (∃ A c, e = .returned (.slice A l.length c) ∧ RI w' w'.heap.size A l.length l ∧ (A = none → c = 0) ∧ l.length ≤ c) ∧ Below w.heap.size w w'
/-- what the statements ask the program's pools about -/
structure PAsk (w : World) (A : Option Addr) (n c : Nat) (ls : List (List (Int × Int))) : Prop where
  reads : RSS w w.heap.size A n ls
  nil : A = none → c = 0
  cap : n ≤ c
  kinds : n ≤ 10
  steps : ∀ j, j < n → (ls.getD j []).length ≤ 1100
theorem PAsk.next {w w' : World} {A : Option Addr} {n c : Nat} {ls : List (List (Int × Int))} (h : PAsk w A n c ls) (hb : Below w.heap.size w w') : PAsk w' A n c ls := ⟨h.reads.next hb, h.nil, h.cap, h.kinds, h.steps⟩
/-- amounts that are asked -/
structure NAsk (w : World) (A : Option Addr) (n : Nat) (xs : List Int) : Prop where
  reads : RI w w.heap.size A n xs
  few : n ≤ 10
  int : ∀ x ∈ xs, I64 x
theorem NAsk.next {w w' : World} {A : Option Addr} {n : Nat} {xs : List Int} (h : NAsk w A n xs) (hb : Below w.heap.size w w') : NAsk w' A n xs := ⟨h.reads.next hb, h.few, h.int⟩

structure PoolsOk : Prop where
  right : ∀ (A : Option Addr) (n c : Nat) (ls : List (List (Int × Int))) (w : World), PAsk w A n c ls →
    Calls Try.prog 14 #[.slice A n c] w fun e w' => e = .returned (.bool (rightPP ls)) ∧ Below w.heap.size w w'
  new : ∀ (A : Option Addr) (n c : Nat) (xs : List Int) (w : World), RI w w.heap.size A n xs → n ≤ maxLen → (∀ x ∈ xs, I64 x) →
    Calls Try.prog 20 #[.slice A n c] w (PPost (newPP xs).1 (newPP xs).2 w)
  take : ∀ (A : Option Addr) (n c : Nat) (A2 : Option Addr) (n2 c2 : Nat) (ls : List (List (Int × Int))) (a b : Int) (ns : List Int) (w : World), PAsk w A n c ls → NAsk w A2 n2 ns → I64 a → I64 b →
    Calls Try.prog 11 #[.slice A n c, .int .i64 a, .int .i64 b, .slice A2 n2 c2] w (PPost (changePP false ls a b ns).1 (changePP false ls a b ns).2 w)
  give : ∀ (A : Option Addr) (n c : Nat) (A2 : Option Addr) (n2 c2 : Nat) (ls : List (List (Int × Int))) (a b : Int) (ns : List Int) (w : World), PAsk w A n c ls → NAsk w A2 n2 ns → I64 a → I64 b →
    Calls Try.prog 13 #[.slice A n c, .int .i64 a, .int .i64 b, .slice A2 n2 c2] w (PPost (changePP true ls a b ns).1 (changePP true ls a b ns).2 w)
  first : ∀ (A : Option Addr) (n c : Nat) (A2 : Option Addr) (n2 c2 : Nat) (ls : List (List (Int × Int))) (a l : Int) (ns : List Int) (w : World), PAsk w A n c ls → NAsk w A2 n2 ns → I64 a → I64 l →
    Calls Try.prog 22 #[.slice A n c, .int .i64 a, .int .i64 l, .slice A2 n2 c2] w fun e w' => e = .returned (.tuple #[.int .i64 (firstPP ls a l ns).1, .bool (firstPP ls a l ns).2]) ∧ Below w.heap.size w w'
  at_ : ∀ (A : Option Addr) (n c : Nat) (ls : List (List (Int × Int))) (t : Int) (w : World), PAsk w A n c ls → I64 t →
    Calls Try.prog 19 #[.slice A n c, .int .i64 t] w (IPost (atPP ls t) w)

/-! The reference's functions in the same form -/
section
variable {A A' : Option Addr} {n c n' c' : Nat} {ls ls' : List (List (Int × Int))} {xs ys : List Int} {w : World}
theorem ml10 (h : n ≤ 10) : n ≤ maxLen := by unfold maxLen; omega
theorem r_right (h : PAsk w A n c ls) : Calls Try.prog 15 #[.slice A n c] w fun e w' => e = .returned (.bool (rightPP ls)) ∧ Below w.heap.size w w' := refRightPP_any A n c ls w h.reads (ml10 h.kinds)
theorem r_same (h : PAsk w A n c ls) (h' : RSS w w.heap.size A' n' ls') (he : ls' = ls) : Calls Try.prog 16 #[.slice A n c, .slice A' n' c'] w fun e w' => e = .returned (.bool true) ∧ Below w.heap.size w w' := by
  subst he
  exact refSamePP_any A A' n c n' c' ls' w h.reads h' (ml10 h.kinds)
theorem r_take {a b : Int} (h : PAsk w A n c ls) (h' : NAsk w A' n' xs) : Calls Try.prog 12 #[.slice A n c, .int .i64 a, .int .i64 b, .slice A' n' c', .bool false] w (PPost (changePP false ls a b xs).1 (changePP false ls a b xs).2 w) :=
  refChangePP_take A n c A' n' c' ls a b xs w h.reads h.nil h.cap (ml10 h.kinds) h'.reads h'.int (ml10 h'.few)
theorem r_give {a b : Int} (h : PAsk w A n c ls) (h' : NAsk w A' n' xs) : Calls Try.prog 12 #[.slice A n c, .int .i64 a, .int .i64 b, .slice A' n' c', .bool true] w (PPost (changePP true ls a b xs).1 (changePP true ls a b xs).2 w) :=
  refChangePP_give A n c A' n' c' ls a b xs w h.reads h.nil h.cap (ml10 h.kinds) h'.reads h'.int (ml10 h'.few)
theorem r_first {a l : Int} (h : PAsk w A n c ls) (h' : NAsk w A' n' xs) (hl : I64 l) : Calls Try.prog 23 #[.slice A n c, .int .i64 a, .int .i64 l, .slice A' n' c'] w fun e w' => e = .returned (.tuple #[.int .i64 (firstPP ls a l xs).1, .bool (firstPP ls a l xs).2]) ∧ Below w.heap.size w w' :=
  refFirstPP_any A n c A' n' c' ls a l xs w h.reads h'.reads (ml10 h.kinds) hl
end
theorem calls_ppost {P : Program} {f : FuncId} {args : Array Value} {w : World} {r : List (List (Int × Int)) × Int} {l : List (List (Int × Int))} {er : Int} (h : Calls P f args w (PPost r.1 r.2 w)) (e : r = (l, er)) : Calls P f args w (PPost l er w) := by
  subst e; exact h
theorem calls_ipost {P : Program} {f : FuncId} {args : Array Value} {w : World} {r l : List Int} (h : Calls P f args w (IPost r w)) (e : r = l) : Calls P f args w (IPost l w) := by
  subst e; exact h

end Go.Proofs.Ytkhnlbkghjjdnaa
