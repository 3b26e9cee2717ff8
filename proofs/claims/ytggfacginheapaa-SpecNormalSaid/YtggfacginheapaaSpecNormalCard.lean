/- SpecNormal holds: Ahead is an order: none is ahead of itself, of two not both are, and it is handed on; what isn't ahead either way is handed on, too. The statement SpecNormal. No condition: every input. -/
import Derived.Test.YtggfacginheapaaSpecFrame
import Derived.Test.YtggfacginheapaaSpecLNormal
namespace Go.Proofs.Ytggfacginheapaa
open Go.ChangeShapes Go.WideShapes Go.ChangeAt Go.RowKit

set_option maxRecDepth 100000 in
theorem specNormal_lifted (H : SpecOk) (os : Os) (started : os.Started) (H' : Type) (enc : TypeId × Value → H') :
    ReturnsInHanded {} Try.checked os 4 .any (Rows.specNormalSpec.pre6 enc Try.prog Try.f4 Rows.specNormalRow.domain false)
      (Rows.specNormalSpec.post enc Try.prog Try.f4 false true false false) := by
  refine lifted_true started (by kernel_rfl) Try.func4 (by kernel_rfl) rfl
    (fun t ht => by
      have hp : Try.f4.params = #[23, 23, 23] := Try.params4
      rw [hp] at ht
      have hall : ([23, 23, 23].all fun u => Try.prog.readableRec u && decide (u < Try.prog.types.size)) = true := by kernel_rfl
      have := List.all_eq_true.1 hall t (by simpa using ht)
      simpa using this)
    (ChangeSpec.witness6 (enc := enc) (C := Try.checked) (os := os) false ⟨#[], #[.agg #[.int .i64 0, .int .i64 0, .int .i64 0, .string ⟨#[]⟩, .bool false, .int .i64 0, .int .i64 0], .agg #[.int .i64 0, .int .i64 0, .int .i64 0, .string ⟨#[]⟩, .bool false, .int .i64 0, .int .i64 0], .agg #[.int .i64 0, .int .i64 0, .int .i64 0, .string ⟨#[]⟩, .bool false, .int .i64 0, .int .i64 0]], []⟩ 8 (by kernel_rfl) (by kernel_rfl) (by kernel_rfl) (by kernel_rfl)) ?_
  intro W base args ds p hval hA
  have hG : Glob W := rfl
  rw [Try.params4] at hA hval
  obtain ⟨v0, r'0, d0, e'0, p0, q'0, ha, rfl, rfl, h0, hA⟩ := trodAll_cons hA
  obtain ⟨v1, r'1, d1, e'1, p1, q'1, rfl, rfl, rfl, h1, hA⟩ := trodAll_cons hA
  obtain ⟨v2, r'2, d2, e'2, p2, q'2, rfl, rfl, rfl, h2, hA⟩ := trodAll_cons hA
  obtain ⟨rfl, rfl, rfl⟩ := trodAll_nil hA
  obtain rfl : args = #[v0, v1, v2] := by cases args; simp_all
  clear ha
  obtain ⟨s0, rfl, a0⟩ := open_S (hval 0 23 v0 rfl rfl) h0
  obtain ⟨s1, rfl, a1⟩ := open_S (hval 1 23 v1 rfl rfl) h1
  obtain ⟨s2, rfl, a2⟩ := open_S (hval 2 23 v2 rfl rfl) h2
  exact ⟨rfl, specNormal_walk H s0 s1 s2 W a0 a1 a2 hG⟩

theorem specNormal_holds (H : SpecOk) : Rows.SpecNormalSaid :=
  OpenClaim.holds_of_wide 4 Try.f4 rfl rfl rfl rfl rfl rfl rfl ⟨rfl, rfl, rfl, rfl, rfl⟩ rfl rfl rfl rfl rfl (by kernel_rfl) Try.func4 (by kernel_rfl)
    (of_decide_eq_true (by kernel_rfl)) (by unfold Func.isWrapper; first | (rw [if_pos (by decide +kernel)]; kernel_rfl) | (rw [if_neg (by decide +kernel)]; exact ⟨rfl, rfl⟩))
    (fun os started H' enc _ => specNormal_lifted H os started H' enc)

end Go.Proofs.Ytggfacginheapaa
