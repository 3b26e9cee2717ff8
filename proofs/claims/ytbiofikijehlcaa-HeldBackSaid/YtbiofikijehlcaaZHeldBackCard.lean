/- HeldBack holds: what was added and dropped leaves all as it was; what is cut short is over by then. The statement HeldBack. No condition: every input. -/
import Derived.Test.YtbiofikijehlcaaMg02
import Derived.Test.YtbiofikijehlcaaZHeldLBack
namespace Go.Proofs.Ytbiofikijehlcaa
open Go.ChangeShapes Go.WideShapes Go.ChangeAt Go.RowKit

set_option maxRecDepth 100000 in
theorem heldBack_lifted (H : HeldOk) (os : Os) (started : os.Started) (H' : Type) (enc : TypeId × Value → H') :
    ReturnsInHanded {} Try.checked os 5 .any (Rows.heldBackSpec.pre6 enc Try.prog Try.f5 Rows.heldBackRow.domain false)
      (Rows.heldBackSpec.post enc Try.prog Try.f5 false true false false) := by
  refine lifted_true started (by kernel_rfl) Try.func5 (by kernel_rfl) rfl
    (fun t ht => by
      have hp : Try.f5.params = #[22, 36, 2] := Try.params5
      rw [hp] at ht
      have hall : ([22, 36, 2].all fun u => Try.prog.readableRec u && decide (u < Try.prog.types.size)) = true := by kernel_rfl
      have := List.all_eq_true.1 hall t (by simpa using ht)
      simpa using this)
    (ChangeSpec.witness6 (enc := enc) (C := Try.checked) (os := os) false ⟨#[], #[.slice none 0 0, .agg #[.int .i64 0, .slice none 0 0, .int .i64 0, .int .i64 0], .int .i64 0], []⟩ 8 (by kernel_rfl) (by kernel_rfl) (by kernel_rfl) (by kernel_rfl)) ?_
  intro W base args ds p hval hA
  have hG : Glob W := rfl
  rw [Try.params5] at hA hval
  obtain ⟨v0, r'0, d0, e'0, p0, q'0, ha, rfl, rfl, h0, hA⟩ := trodAll_cons hA
  obtain ⟨v1, r'1, d1, e'1, p1, q'1, rfl, rfl, rfl, h1, hA⟩ := trodAll_cons hA
  obtain ⟨v2, r'2, d2, e'2, p2, q'2, rfl, rfl, rfl, h2, hA⟩ := trodAll_cons hA
  obtain ⟨rfl, rfl, rfl⟩ := trodAll_nil hA
  obtain rfl : args = #[v0, v1, v2] := by cases args; simp_all
  clear ha
  obtain ⟨A0, n0, c0, x0, rfl, b0⟩ := open_RT (hval 0 22 v0 rfl rfl) h0
  obtain ⟨A1, n1, c1, x1, rfl, b1⟩ := open_H (hval 1 36 v1 rfl rfl) h1
  obtain ⟨i2, rfl, rfl, rfl, m2⟩ := open_int Try.underlying2 (hval 2 2 v2 rfl rfl) h2
  exact ⟨rfl, heldBack_walk H A0 n0 c0 x0 A1 n1 c1 x1 i2 W b0 b1⟩

theorem heldBack_holds (H : HeldOk) : Rows.HeldBackSaid :=
  OpenClaim.holds_of_wide 5 Try.f5 rfl rfl rfl rfl rfl rfl rfl ⟨rfl, rfl, rfl, rfl, rfl⟩ rfl rfl rfl rfl rfl (by kernel_rfl) Try.func5 (by kernel_rfl)
    (of_decide_eq_true (by kernel_rfl)) (by unfold Func.isWrapper; first | (rw [if_pos (by decide +kernel)]; kernel_rfl) | (rw [if_neg (by decide +kernel)]; exact ⟨rfl, rfl⟩))
    (fun os started H' enc _ => heldBack_lifted H os started H' enc)

end Go.Proofs.Ytbiofikijehlcaa
