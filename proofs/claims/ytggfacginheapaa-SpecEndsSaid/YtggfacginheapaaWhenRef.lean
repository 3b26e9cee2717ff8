/- The reference's Plus (bailiwickref02): a time and a length further on, at most Never; of any two numbers. -/
import Derived.Test.YtggfacginheapaaWords
import Derived.LoopTactic
namespace Go.Proofs.Ytggfacginheapaa
open Go.RowKit

def nearZ (x : Int) : Int := if x < 0 then 0 else if 4611686018427387904 < x then 4611686018427387904 else x
def plusZ (t l : Int) : Int := if 4611686018427387904 < nearZ t + nearZ l then 4611686018427387904 else nearZ t + nearZ l
theorem nearZ_range (x : Int) : 0 ≤ nearZ x ∧ nearZ x ≤ 4611686018427387904 := by unfold nearZ; repeat' split; all_goals omega

theorem refNear_any (x : Int) (w : World) (h1 : -9223372036854775808 ≤ x) (h2 : x ≤ 9223372036854775807) :
    Calls Try.prog 27 #[.int .i64 x] w fun e w' => e = .returned (.int .u64 (nearZ x)) ∧ w = w' := by
  by_cases h3 : x < 0
  · have e : Hid (nearZ x = 0) := Lib.hid (by unfold nearZ; rw [if_pos h3])
    go_enter Try.func27, Try.ntmps27
    go_wp2
    go_ret
    exact ⟨ret_num e.out.symm, rfl⟩
  · by_cases h4 : 4611686018427387904 < x
    · have e : Hid (nearZ x = 4611686018427387904) := Lib.hid (by unfold nearZ; rw [if_neg h3, if_pos h4])
      go_enter Try.func27, Try.ntmps27
      go_wp2
      go_ret
      exact ⟨ret_num e.out.symm, rfl⟩
    · have e : Hid (nearZ x = x) := Lib.hid (by unfold nearZ; rw [if_neg h3, if_neg h4])
      go_enter Try.func27, Try.ntmps27
      go_wp2
      go_ret
      refine ⟨ret_num ?_, rfl⟩
      rw [e.out]

theorem refPlus_any (t l : Int) (w : World) (h1 : -9223372036854775808 ≤ t) (h2 : t ≤ 9223372036854775807) (h3 : -9223372036854775808 ≤ l) (h4 : l ≤ 9223372036854775807) :
    Calls Try.prog 21 #[.int .i64 t, .int .i64 l] w fun e w' => e = .returned (.int .i64 (plusZ t l)) ∧ w = w' := by
  have e : Hid (plusZ t l = if 4611686018427387904 < nearZ t + nearZ l then 4611686018427387904 else nearZ t + nearZ l) := Lib.hid rfl
  obtain ⟨z, hz⟩ : ∃ z, plusZ t l = z := ⟨_, rfl⟩
  rw [hz] at e ⊢
  clear hz
  go_enter Try.func21, Try.ntmps21
  go_wp2_with fail
  refine (refNear_any _ _ h1 h2).mono ?_
  rintro e w1 ⟨rfl, rfl⟩
  go_wp2_with fail
  refine (refNear_any _ _ h3 h4).mono ?_
  rintro e w1 ⟨rfl, rfl⟩
  have r1 := nearZ_range t
  have r2 := nearZ_range l
  generalize nearZ t = x at *
  generalize nearZ l = y at *
  have hw : IntKind.u64.wrap (x + y) = x + y := by rw [IntKind.wrap_u64]; omega
  by_cases h5 : 4611686018427387904 < x + y
  · have e2 : z = 4611686018427387904 := by rw [e.out, if_pos h5]
    subst e2
    clear e
    go_wp2
    go_ret
    exact ⟨rfl, rfl⟩
  · have e2 : z = x + y := by rw [e.out, if_neg h5]
    subst e2
    clear e
    go_wp2
    go_ret
    exact ⟨rfl, rfl⟩

end Go.Proofs.Ytggfacginheapaa
