/- SpecParts holds: what a part asks for is less by as many nodes, with all of each; a part of a part is one part. The statement SpecParts. No condition: every input. -/
import Derived.Test.YtggfacginheapaaSpecFrame
import Derived.Test.YtggfacginheapaaSpecLParts
namespace Go.Proofs.Ytggfacginheapaa
open Go.ChangeShapes Go.WideShapes Go.ChangeAt Go.RowKit

set_option maxRecDepth 100000 in
theorem specParts_lifted (H : SpecOk) (os : Os) (started : os.Started) (H' : Type) (enc : TypeId × Value → H') :
    ReturnsInHanded {} Try.checked os 5 .any (Rows.specPartsSpec.pre6 enc Try.prog Try.f5 Rows.specPartsRow.domain false)
      (Rows.specPartsSpec.post enc Try.prog Try.f5 false true false false) := by
  refine lifted_true started (by kernel_rfl) Try.func5 (by kernel_rfl) rfl
    (fun t ht => by
      have hp : Try.f5.params = #[23, 5, 5] := Try.params5
      rw [hp] at ht
      have hall : ([23, 5, 5].all fun u => Try.prog.readableRec u && decide (u < Try.prog.types.size)) = true := by kernel_rfl
      have := List.all_eq_true.1 hall t (by simpa using ht)
      simpa using this)
    (ChangeSpec.witness6 (enc := enc) (C := Try.checked) (os := os) false ⟨#[], #[.agg #[.int .i64 0, .int .i64 0, .int .i64 0, .string ⟨#[]⟩, .bool false, .int .i64 0, .int .i64 0], .int .u8 0, .int .u8 0], []⟩ 8 (by kernel_rfl) (by kernel_rfl) (by kernel_rfl) (by kernel_rfl)) ?_
  intro W base args ds p hval hA
  have hG : Glob W := rfl
  rw [Try.params5] at hA hval
  obtain ⟨v0, r'0, d0, e'0, p0, q'0, ha, rfl, rfl, h0, hA⟩ := trodAll_cons hA
  obtain ⟨v1, r'1, d1, e'1, p1, q'1, rfl, rfl, rfl, h1, hA⟩ := trodAll_cons hA
  obtain ⟨v2, r'2, d2, e'2, p2, q'2, rfl, rfl, rfl, h2, hA⟩ := trodAll_cons hA
  obtain ⟨rfl, rfl, rfl⟩ := trodAll_nil hA
  obtain rfl : args = #[v0, v1, v2] := by cases args; simp_all
  clear ha
  obtain ⟨s0, rfl, a0⟩ := open_S (hval 0 23 v0 rfl rfl) h0
  obtain ⟨i1, rfl, rfl, rfl, m1⟩ := open_int Try.underlying5 (hval 1 5 v1 rfl rfl) h1
  obtain ⟨i2, rfl, rfl, rfl, m2⟩ := open_int Try.underlying5 (hval 2 5 v2 rfl rfl) h2
  exact ⟨rfl, specParts_walk H s0 i1 i2 W a0 (u8_wf m1) (u8_wf m2) hG⟩

theorem specParts_holds (H : SpecOk) : Rows.SpecPartsSaid :=
  OpenClaim.holds_of_wide 5 Try.f5 rfl rfl rfl rfl rfl rfl rfl ⟨rfl, rfl, rfl, rfl, rfl⟩ rfl rfl rfl rfl rfl (by kernel_rfl) Try.func5 (by kernel_rfl)
    (of_decide_eq_true (by kernel_rfl)) (by unfold Func.isWrapper; first | (rw [if_pos (by decide +kernel)]; kernel_rfl) | (rw [if_neg (by decide +kernel)]; exact ⟨rfl, rfl⟩))
    (fun os started H' enc _ => specParts_lifted H os started H' enc)

end Go.Proofs.Ytggfacginheapaa
