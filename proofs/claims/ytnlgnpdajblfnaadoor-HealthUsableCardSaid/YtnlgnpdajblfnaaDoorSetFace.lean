/- The program's sets, and the reference's, in one form: what each call answers of lists of int; all that was there is kept. -/
import Derived.Test.YtnlgnpdajblfnaaDoorNums
import Derived.Test.YtnlgnpdajblfnaaDoorGlob
import Derived.Test.YtnlgnpdajblfnaaDoorSame01
import Derived.Test.YtnlgnpdajblfnaaDoorSetReads
import Derived.Test.YtnlgnpdajblfnaaDoorSetAsks
namespace Go.Proofs.YtnlgnpdajblfnaaDoor
open Go.RowKit

section
variable {A A' : Option Addr} {n c n' c' : Nat} {xs ys : List Int} {w : World}
theorem s_isSet {v : Bool} (hr : RI w w.heap.size A n xs) (hn : n ≤ maxLen) (h : rightB xs = v) :
    Calls Tryd.prog 25 #[.slice A n c] w fun e w' => e = .returned (.bool v) ∧ Below w.heap.size w w' :=
  (right_any A n c xs w _ hr hn).mono fun _ _ ⟨h1, h2⟩ => ⟨by rw [h1, h], by rw [← h2]; exact Below.refl _ _⟩
theorem s_part {v : Bool} (hr : RI w w.heap.size A n xs) (hr' : RI w w.heap.size A' n' ys) (hn : n ≤ maxLen) (hn' : n' ≤ maxLen) (h : partB xs ys = v) :
    Calls Tryd.prog 9 #[.slice A n c, .slice A' n' c'] w fun e w' => e = .returned (.bool v) ∧ Below w.heap.size w w' := h ▸ part_any A A' n c n' c' xs ys w hr hr' hn hn'
theorem s_apart {v : Bool} (hr : RI w w.heap.size A n xs) (hr' : RI w w.heap.size A' n' ys) (hn : n ≤ maxLen) (hn' : n' ≤ maxLen) (h : apartB xs ys = v) :
    Calls Tryd.prog 16 #[.slice A n c, .slice A' n' c'] w fun e w' => e = .returned (.bool v) ∧ Below w.heap.size w w' := h ▸ apart_any A A' n c n' c' xs ys w hr hr' hn hn'
theorem s_less (hr : RI w w.heap.size A n xs) (hr' : RI w w.heap.size A' n' ys) (hn : n ≤ maxLen) (hn' : n' ≤ maxLen) (hG : Glob w) :
    Calls Tryd.prog 12 #[.slice A n c, .slice A' n' c'] w (IPost (lessL xs ys) w) := less_post A A' n c n' c' xs ys w hr hr' hn hn' hG.tz hG.pos
theorem ri_same {v : Bool} (hr : RI w w.heap.size A n xs) (hr' : RI w w.heap.size A' n' ys) (hn : n ≤ maxLen) (hn' : n' ≤ maxLen) (h : sameB xs ys = v) :
    Calls Tryd.prog 10 #[.slice A n c, .slice A' n' c'] w fun e w' => e = .returned (.bool v) ∧ Below w.heap.size w w' :=
  (same_any A A' n c n' c' xs ys w _ _ hr hr' hn hn').mono fun _ _ ⟨h1, k, h2⟩ => ⟨by rw [h1, h], by rw [h2]; exact bel_drew w k⟩
end
theorem same_self (xs : List Int) : sameB xs xs = true := sameB_iff.2 rfl

end Go.Proofs.YtnlgnpdajblfnaaDoor
