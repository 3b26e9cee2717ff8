/- The program's functions of layer 2 (when) that layer 3 calls: Right, Within, Plus: what they answer of any numbers. -/
import Derived.Test.YtggfacginheapaaWhenRef
import Derived.Below
namespace Go.Proofs.Ytggfacginheapaa
open Go.RowKit

def withinB (a b c d : Int) : Bool := decide (b ≤ a ∨ (c ≤ a ∧ b ≤ d))
def timeB (t : Int) : Bool := decide (0 ≤ t ∧ t ≤ 4611686018427387904)

theorem ret_bl {a b : Bool} (h : b = a) : Ending.returned (.bool a) = .returned (.bool b) := by rw [h]

theorem near_any (x : Int) (w : World) : Calls Try.prog 26 #[.int .i64 x] w fun e w' => e = .returned (.int .i64 (nearZ x)) ∧ w = w' := by
  by_cases h3 : x < 0
  · have e : Hid (nearZ x = 0) := Lib.hid (by unfold nearZ; rw [if_pos h3])
    have m1 : max x 0 = 0 := by omega
    have m2 : min (0 : Int) 4611686018427387904 = 0 := by omega
    go_enter Try.func26, Try.ntmps26
    go_wp2
    go_ret
    exact ⟨ret_num e.out.symm, rfl⟩
  · have m1 : max x 0 = x := by omega
    by_cases h4 : 4611686018427387904 < x
    · have e : Hid (nearZ x = 4611686018427387904) := Lib.hid (by unfold nearZ; rw [if_neg h3, if_pos h4])
      have m2 : min x 4611686018427387904 = 4611686018427387904 := by omega
      go_enter Try.func26, Try.ntmps26
      go_wp2
      go_ret
      exact ⟨ret_num e.out.symm, rfl⟩
    · have e : Hid (nearZ x = x) := Lib.hid (by unfold nearZ; rw [if_neg h3, if_neg h4])
      have m2 : min x 4611686018427387904 = x := by omega
      go_enter Try.func26, Try.ntmps26
      go_wp2
      go_ret
      refine ⟨ret_num ?_, rfl⟩
      rw [e.out]



theorem whenPlus_any (t l : Int) (w : World) : Calls Try.prog 20 #[.int .i64 t, .int .i64 l] w fun e w' => e = .returned (.int .i64 (plusZ t l)) ∧ w = w' := by
  have e : Hid (plusZ t l = if 4611686018427387904 < nearZ t + nearZ l then 4611686018427387904 else nearZ t + nearZ l) := Lib.hid rfl
  obtain ⟨z, hz⟩ : ∃ z, plusZ t l = z := ⟨_, rfl⟩
  rw [hz] at e ⊢
  clear hz
  go_enter Try.func20, Try.ntmps20
  go_wp2_with fail
  refine (near_any _ _).mono ?_
  rintro e w1 ⟨rfl, rfl⟩
  go_wp2_with fail
  refine (near_any _ _).mono ?_
  rintro e w1 ⟨rfl, rfl⟩
  have r1 := nearZ_range t
  have r2 := nearZ_range l
  generalize nearZ t = x at *
  generalize nearZ l = y at *
  by_cases h5 : 4611686018427387904 < x + y
  · have e2 : z = 4611686018427387904 := by rw [e.out, if_pos h5]
    have h6 : 4611686018427387904 - x < y := by omega
    subst e2
    clear e
    go_wp2
    go_ret
    exact ⟨rfl, rfl⟩
  · have e2 : z = x + y := by rw [e.out, if_neg h5]
    have h6 : ¬ 4611686018427387904 - x < y := by omega
    subst e2
    clear e
    go_wp2
    go_ret
    exact ⟨rfl, rfl⟩

theorem plusZ_i64 (t l : Int) : I64 (plusZ t l) := by
  have r1 := nearZ_range t
  have r2 := nearZ_range l
  unfold I64 plusZ
  split <;> omega


end Go.Proofs.Ytggfacginheapaa
