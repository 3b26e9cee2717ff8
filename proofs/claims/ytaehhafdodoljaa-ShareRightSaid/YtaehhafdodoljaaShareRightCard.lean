/- ShareRight holds: any amount is cleaned, faded and added, any share told, bit by bit as the document says. The statement ShareRight. No condition: every input. -/
import Derived.Test.YtaehhafdodoljaaShareFrame
import Derived.Test.YtaehhafdodoljaaShareLRight
namespace Go.Proofs.Ytaehhafdodoljaa
open Go.ChangeShapes Go.WideShapes Go.ChangeAt Go.RowKit

set_option maxRecDepth 100000 in
theorem shareRight_lifted (H : ShareOk) (os : Os) (started : os.Started) (H' : Type) (enc : TypeId × Value → H') :
    ReturnsInHanded {} Try.checked os 3 .any (Rows.shareRightSpec.pre6 enc Try.prog Try.f3 Rows.shareRightRow.domain false)
      (Rows.shareRightSpec.post enc Try.prog Try.f3 false true false false) := by
  refine lifted_true started (by kernel_rfl) Try.func3 (by kernel_rfl) rfl
    (fun t ht => by
      have hp : Try.f3.params = #[22, 3, 23, 25] := Try.params3
      rw [hp] at ht
      have hall : ([22, 3, 23, 25].all fun u => Try.prog.readableRec u && decide (u < Try.prog.types.size)) = true := by kernel_rfl
      have := List.all_eq_true.1 hall t (by simpa using ht)
      simpa using this)
    (ChangeSpec.witness6 (enc := enc) (C := Try.checked) (os := os) false ⟨#[], #[.float .f64 0, .int .i64 0, .slice none 0 0, .agg #[.int .i64 0, .float .f64 0, .float .f64 0]], []⟩ 8 (by kernel_rfl) (by kernel_rfl) (by kernel_rfl) (by kernel_rfl)) ?_
  intro W base args ds p hval hA
  have hG : Glob W := rfl
  rw [Try.params3] at hA hval
  obtain ⟨v0, r'0, d0, e'0, p0, q'0, ha, rfl, rfl, h0, hA⟩ := trodAll_cons hA
  obtain ⟨v1, r'1, d1, e'1, p1, q'1, rfl, rfl, rfl, h1, hA⟩ := trodAll_cons hA
  obtain ⟨v2, r'2, d2, e'2, p2, q'2, rfl, rfl, rfl, h2, hA⟩ := trodAll_cons hA
  obtain ⟨v3, r'3, d3, e'3, p3, q'3, rfl, rfl, rfl, h3, hA⟩ := trodAll_cons hA
  obtain ⟨rfl, rfl, rfl⟩ := trodAll_nil hA
  obtain rfl : args = #[v0, v1, v2, v3] := by cases args; simp_all
  clear ha
  obtain ⟨f0, rfl, rfl, rfl, m0⟩ := open_float Try.underlying22 (hval 0 22 v0 rfl rfl) h0
  obtain ⟨i1, rfl, rfl, rfl, m1⟩ := open_int Try.underlying3 (hval 1 3 v1 rfl rfl) h1
  obtain ⟨A2, n2, c2, x2, rfl, b2⟩ := open_RF (hval 2 23 v2 rfl rfl) h2
  obtain ⟨u3, rfl, a3⟩ := open_U (hval 3 25 v3 rfl rfl) h3
  exact ⟨rfl, shareRight_walk H f0 i1 A2 n2 c2 x2 u3 W (w64_of m0) (i64_wf m1) b2 a3⟩

theorem shareRight_holds (H : ShareOk) : Rows.ShareRightSaid :=
  OpenClaim.holds_of_wide 3 Try.f3 rfl rfl rfl rfl rfl rfl rfl ⟨rfl, rfl, rfl, rfl, rfl⟩ rfl rfl rfl rfl rfl (by kernel_rfl) Try.func3 (by kernel_rfl)
    (of_decide_eq_true (by kernel_rfl)) (by unfold Func.isWrapper; first | (rw [if_pos (by decide +kernel)]; kernel_rfl) | (rw [if_neg (by decide +kernel)]; exact ⟨rfl, rfl⟩))
    (fun os started H' enc _ => shareRight_lifted H os started H' enc)

end Go.Proofs.Ytaehhafdodoljaa
