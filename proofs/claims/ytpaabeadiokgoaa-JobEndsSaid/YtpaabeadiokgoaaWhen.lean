/- The program's functions of layer 2 (when) that layer 3 calls: Right, Within, Plus: what they answer of any numbers. -/
import Derived.Test.YtpaabeadiokgoaaWhenRef
import Derived.Below
namespace Go.Proofs.Ytpaabeadiokgoaa
open Go.RowKit

def withinB (a b c d : Int) : Bool := decide (b ≤ a ∨ (c ≤ a ∧ b ≤ d))
def timeB (t : Int) : Bool := decide (0 ≤ t ∧ t ≤ 4611686018427387904)

theorem ret_bl {a b : Bool} (h : b = a) : Ending.returned (.bool a) = .returned (.bool b) := by rw [h]


theorem whenRight_any (t : Int) (w : World) : Calls Try.prog 15 #[.int .i64 t] w fun e w' => e = .returned (.bool (timeB t)) ∧ w = w' := by
  by_cases h : 0 ≤ t
  · by_cases h2 : t ≤ 4611686018427387904
    · have e : Hid (timeB t = true) := Lib.hid (by unfold timeB; exact decide_eq_true ⟨h, h2⟩)
      go_enter Try.func15, Try.ntmps15
      go_wp2
      go_ret
      exact ⟨ret_bl e.out, rfl⟩
    · have e : Hid (timeB t = false) := Lib.hid (by unfold timeB; exact decide_eq_false (fun h' => h2 h'.2))
      go_enter Try.func15, Try.ntmps15
      go_wp2
      go_ret
      exact ⟨ret_bl e.out, rfl⟩
  · have e : Hid (timeB t = false) := Lib.hid (by unfold timeB; exact decide_eq_false (fun h' => h h'.1))
    go_enter Try.func15, Try.ntmps15
    go_wp2
    go_ret
    exact ⟨ret_bl e.out, rfl⟩



theorem plusZ_i64 (t l : Int) : I64 (plusZ t l) := by
  have r1 := nearZ_range t
  have r2 := nearZ_range l
  unfold I64 plusZ
  split <;> omega

theorem whenRight_b (t : Int) (w : World) (b : Bool) (h : timeB t = b) : Calls Try.prog 15 #[.int .i64 t] w fun e w' => e = .returned (.bool b) ∧ w = w' := by
  subst h
  exact whenRight_any t w

end Go.Proofs.Ytpaabeadiokgoaa
