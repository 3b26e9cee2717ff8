/- What the program's functions of layer 6 (health) answer, as one list of contracts: the statements' walks lean on it alone. -/
import Derived.Test.YtnlgnpdajblfnaaDoorHealthMath
import Derived.Test.YtnlgnpdajblfnaaDoorGraphFace
namespace Go.Proofs.YtnlgnpdajblfnaaDoor
open Go.RowKit

structure HealthOk : Prop where
  right : ∀ (A : Option Addr) (n c : Nat) (A2 : Option Addr) (n2 c2 : Nat) (g : Gr) (h : List Int) (w : World), GAsk w A n c g → WAsk w A2 n2 c2 h → Glob w →
    Calls Tryd.prog 6 #[.slice A n c, .slice A2 n2 c2] w fun e w' => e = .returned (.bool (rightH g h)) ∧ Below w.heap.size w w'
  new : ∀ (A : Option Addr) (n c : Nat) (g : Gr) (w : World), GAsk w A n c g → Glob w →
    Calls Tryd.prog 17 #[.slice A n c] w (IPost (newL g) w)
  set : ∀ (A : Option Addr) (n c : Nat) (A2 : Option Addr) (n2 c2 : Nat) (g : Gr) (h : List Int) (a how : Int) (w : World), GAsk w A n c g → LAsk w A2 n2 c2 h → I64 a → I64 how → Glob w →
    Calls Tryd.prog 14 #[.slice A n c, .slice A2 n2 c2, .int .i64 a, .int .i64 how] w (IEPost (setL g h a how).1 (setL g h a how).2 w)
  worst : ∀ (A : Option Addr) (n c : Nat) (A2 : Option Addr) (n2 c2 : Nat) (g : Gr) (h : List Int) (a : Int) (w : World), GAsk w A n c g → LAsk w A2 n2 c2 h → I64 a → Glob w →
    Calls Tryd.prog 18 #[.slice A n c, .slice A2 n2 c2, .int .i64 a] w fun e w' => e = .returned (.int .i64 (worstL g h a)) ∧ Below w.heap.size w w'
  usable : ∀ (A : Option Addr) (n c : Nat) (A2 : Option Addr) (n2 c2 : Nat) (g : Gr) (h : List Int) (w : World), GAsk w A n c g → LAsk w A2 n2 c2 h → Glob w →
    Calls Tryd.prog 7 #[.slice A n c, .slice A2 n2 c2] w (IPost (belowL g h 0) w)
  works : ∀ (A : Option Addr) (n c : Nat) (A2 : Option Addr) (n2 c2 : Nat) (g : Gr) (h : List Int) (w : World), GAsk w A n c g → LAsk w A2 n2 c2 h → Glob w →
    Calls Tryd.prog 8 #[.slice A n c, .slice A2 n2 c2] w (IPost (belowL g h 1) w)

theorem belowL_i64 {g : Gr} {h : List Int} (m : Int) : ∀ x ∈ belowL g h m, I64 x := fun x hx => by have := right_mem (belowL_right m) x hx; unfold I64; omega
theorem small_i64 {h : List Int} (hx : ∀ x ∈ h, 0 ≤ x ∧ x ≤ 2) : ∀ x ∈ h, I64 x := fun x hm => by have := hx x hm; unfold I64; omega

end Go.Proofs.YtnlgnpdajblfnaaDoor
