/- ShareScales holds: a share stays, when what was had and what is one's own are both doubled; who has had more of as much has no smaller share; a bonus counts others alone. The statement ShareScales. No condition: every input. -/
import Derived.Test.YtaehhafdodoljaaShareFrame
import Derived.Test.YtaehhafdodoljaaShareLScales
namespace Go.Proofs.Ytaehhafdodoljaa
open Go.ChangeShapes Go.WideShapes Go.ChangeAt Go.RowKit

set_option maxRecDepth 100000 in
theorem shareScales_lifted (H : ShareOk) (os : Os) (started : os.Started) (H' : Type) (enc : TypeId × Value → H') :
    ReturnsInHanded {} Try.checked os 7 .any (Rows.shareScalesSpec.pre6 enc Try.prog Try.f7 Rows.shareScalesRow.domain false)
      (Rows.shareScalesSpec.post enc Try.prog Try.f7 false true false false) := by
  refine lifted_true started (by kernel_rfl) Try.func7 (by kernel_rfl) rfl
    (fun t ht => by
      have hp : Try.f7.params = #[43, 43, 43, 33, 3] := Try.params7
      rw [hp] at ht
      have hall : ([43, 43, 43, 33, 3].all fun u => Try.prog.readableRec u && decide (u < Try.prog.types.size)) = true := by kernel_rfl
      have := List.all_eq_true.1 hall t (by simpa using ht)
      simpa using this)
    (ChangeSpec.witness6 (enc := enc) (C := Try.checked) (os := os) false ⟨#[], #[.int .u32 0, .int .u32 0, .int .u32 0, .slice none 0 0, .int .i64 0], []⟩ 8 (by kernel_rfl) (by kernel_rfl) (by kernel_rfl) (by kernel_rfl)) ?_
  intro W base args ds p hval hA
  have hG : Glob W := rfl
  rw [Try.params7] at hA hval
  obtain ⟨v0, r'0, d0, e'0, p0, q'0, ha, rfl, rfl, h0, hA⟩ := trodAll_cons hA
  obtain ⟨v1, r'1, d1, e'1, p1, q'1, rfl, rfl, rfl, h1, hA⟩ := trodAll_cons hA
  obtain ⟨v2, r'2, d2, e'2, p2, q'2, rfl, rfl, rfl, h2, hA⟩ := trodAll_cons hA
  obtain ⟨v3, r'3, d3, e'3, p3, q'3, rfl, rfl, rfl, h3, hA⟩ := trodAll_cons hA
  obtain ⟨v4, r'4, d4, e'4, p4, q'4, rfl, rfl, rfl, h4, hA⟩ := trodAll_cons hA
  obtain ⟨rfl, rfl, rfl⟩ := trodAll_nil hA
  obtain rfl : args = #[v0, v1, v2, v3, v4] := by cases args; simp_all
  clear ha
  obtain ⟨i0, rfl, rfl, rfl, m0⟩ := open_int Try.underlying43 (hval 0 43 v0 rfl rfl) h0
  obtain ⟨i1, rfl, rfl, rfl, m1⟩ := open_int Try.underlying43 (hval 1 43 v1 rfl rfl) h1
  obtain ⟨i2, rfl, rfl, rfl, m2⟩ := open_int Try.underlying43 (hval 2 43 v2 rfl rfl) h2
  obtain ⟨A3, n3, c3, x3, rfl, b3⟩ := open_RU (hval 3 33 v3 rfl rfl) h3
  obtain ⟨i4, rfl, rfl, rfl, m4⟩ := open_int Try.underlying3 (hval 4 3 v4 rfl rfl) h4
  exact ⟨rfl, shareScales_walk H i0 i1 i2 A3 n3 c3 x3 i4 W (u32_wf m0) (u32_wf m1) (u32_wf m2) b3 (i64_wf m4)⟩

theorem shareScales_holds (H : ShareOk) : Rows.ShareScalesSaid :=
  OpenClaim.holds_of_wide 7 Try.f7 rfl rfl rfl rfl rfl rfl rfl ⟨rfl, rfl, rfl, rfl, rfl⟩ rfl rfl rfl rfl rfl (by kernel_rfl) Try.func7 (by kernel_rfl)
    (of_decide_eq_true (by kernel_rfl)) (by unfold Func.isWrapper; first | (rw [if_pos (by decide +kernel)]; kernel_rfl) | (rw [if_neg (by decide +kernel)]; exact ⟨rfl, rfl⟩))
    (fun os started H' enc _ => shareScales_lifted H os started H' enc)

end Go.Proofs.Ytaehhafdodoljaa
