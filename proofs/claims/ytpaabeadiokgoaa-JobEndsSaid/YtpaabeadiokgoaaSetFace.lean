/- The program's sets, and the reference's, in one form: what each call answers of lists of int; all that was there is kept. -/
import Derived.Test.YtpaabeadiokgoaaNums
import Derived.Test.YtpaabeadiokgoaaGlob
import Derived.Test.YtpaabeadiokgoaaSame01
import Derived.Test.YtpaabeadiokgoaaSetReads
namespace Go.Proofs.Ytpaabeadiokgoaa
open Go.RowKit

section
variable {A A' : Option Addr} {n c n' c' : Nat} {xs ys : List Int} {w : World}
theorem ri_same {v : Bool} (hr : RI w w.heap.size A n xs) (hr' : RI w w.heap.size A' n' ys) (hn : n ≤ maxLen) (hn' : n' ≤ maxLen) (h : sameB xs ys = v) :
    Calls Try.prog 24 #[.slice A n c, .slice A' n' c'] w fun e w' => e = .returned (.bool v) ∧ Below w.heap.size w w' :=
  (same_any A A' n c n' c' xs ys w _ _ hr hr' hn hn').mono fun _ _ ⟨h1, k, h2⟩ => ⟨by rw [h1, h], by rw [h2]; exact bel_drew w k⟩
end
theorem same_self (xs : List Int) : sameB xs xs = true := sameB_iff.2 rfl

end Go.Proofs.Ytpaabeadiokgoaa
