/- ShareFades holds: what is cleaned is clean, and cleaned again the same; fading never makes more, and by none changes nothing; one half twice is two halves; a sum is no less than any of its parts. The statement ShareFades. No condition: every input. -/
import Derived.Test.YtaehhafdodoljaaShareFrame
import Derived.Test.YtaehhafdodoljaaShareLFades
namespace Go.Proofs.Ytaehhafdodoljaa
open Go.ChangeShapes Go.WideShapes Go.ChangeAt Go.RowKit

set_option maxRecDepth 100000 in
theorem shareFades_lifted (H : ShareOk) (os : Os) (started : os.Started) (H' : Type) (enc : TypeId × Value → H') :
    ReturnsInHanded {} Try.checked os 6 .any (Rows.shareFadesSpec.pre6 enc Try.prog Try.f6 Rows.shareFadesRow.domain false)
      (Rows.shareFadesSpec.post enc Try.prog Try.f6 false true false false) := by
  refine lifted_true started (by kernel_rfl) Try.func6 (by kernel_rfl) rfl
    (fun t ht => by
      have hp : Try.f6.params = #[22, 5, 5, 23] := Try.params6
      rw [hp] at ht
      have hall : ([22, 5, 5, 23].all fun u => Try.prog.readableRec u && decide (u < Try.prog.types.size)) = true := by kernel_rfl
      have := List.all_eq_true.1 hall t (by simpa using ht)
      simpa using this)
    (ChangeSpec.witness6 (enc := enc) (C := Try.checked) (os := os) false ⟨#[], #[.float .f64 0, .int .u8 0, .int .u8 0, .slice none 0 0], []⟩ 8 (by kernel_rfl) (by kernel_rfl) (by kernel_rfl) (by kernel_rfl)) ?_
  intro W base args ds p hval hA
  have hG : Glob W := rfl
  rw [Try.params6] at hA hval
  obtain ⟨v0, r'0, d0, e'0, p0, q'0, ha, rfl, rfl, h0, hA⟩ := trodAll_cons hA
  obtain ⟨v1, r'1, d1, e'1, p1, q'1, rfl, rfl, rfl, h1, hA⟩ := trodAll_cons hA
  obtain ⟨v2, r'2, d2, e'2, p2, q'2, rfl, rfl, rfl, h2, hA⟩ := trodAll_cons hA
  obtain ⟨v3, r'3, d3, e'3, p3, q'3, rfl, rfl, rfl, h3, hA⟩ := trodAll_cons hA
  obtain ⟨rfl, rfl, rfl⟩ := trodAll_nil hA
  obtain rfl : args = #[v0, v1, v2, v3] := by cases args; simp_all
  clear ha
  obtain ⟨f0, rfl, rfl, rfl, m0⟩ := open_float Try.underlying22 (hval 0 22 v0 rfl rfl) h0
  obtain ⟨i1, rfl, rfl, rfl, m1⟩ := open_int Try.underlying5 (hval 1 5 v1 rfl rfl) h1
  obtain ⟨i2, rfl, rfl, rfl, m2⟩ := open_int Try.underlying5 (hval 2 5 v2 rfl rfl) h2
  obtain ⟨A3, n3, c3, x3, rfl, b3⟩ := open_RF (hval 3 23 v3 rfl rfl) h3
  exact ⟨rfl, shareFades_walk H f0 i1 i2 A3 n3 c3 x3 W (w64_of m0) (u8_wf m1) (u8_wf m2) b3⟩

theorem shareFades_holds (H : ShareOk) : Rows.ShareFadesSaid :=
  OpenClaim.holds_of_wide 6 Try.f6 rfl rfl rfl rfl rfl rfl rfl ⟨rfl, rfl, rfl, rfl, rfl⟩ rfl rfl rfl rfl rfl (by kernel_rfl) Try.func6 (by kernel_rfl)
    (of_decide_eq_true (by kernel_rfl)) (by unfold Func.isWrapper; first | (rw [if_pos (by decide +kernel)]; kernel_rfl) | (rw [if_neg (by decide +kernel)]; exact ⟨rfl, rfl⟩))
    (fun os started H' enc _ => shareFades_lifted H os started H' enc)

end Go.Proofs.Ytaehhafdodoljaa
