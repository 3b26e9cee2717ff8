/- JobRight holds: any job may be or not, and becomes, by whatever happens to it, what the document says; states have its names. The statement JobRight. No condition: every input. -/
import Derived.Test.YtpaabeadiokgoaaJobFrame
import Derived.Test.YtpaabeadiokgoaaJobLRight
namespace Go.Proofs.Ytpaabeadiokgoaa
open Go.ChangeShapes Go.WideShapes Go.ChangeAt Go.RowKit

set_option maxRecDepth 100000 in
theorem jobRight_lifted (H : JobOk) (os : Os) (started : os.Started) (H' : Type) (enc : TypeId × Value → H') :
    ReturnsInHanded {} Try.checked os 3 .any (Rows.jobRightSpec.pre6 enc Try.prog Try.f3 Rows.jobRightRow.domain false)
      (Rows.jobRightSpec.post enc Try.prog Try.f3 false true false false) := by
  refine lifted_true started (by kernel_rfl) Try.func3 (by kernel_rfl) rfl
    (fun t ht => by
      have hp : Try.f3.params = #[26, 3, 2, 3] := Try.params3
      rw [hp] at ht
      have hall : ([26, 3, 2, 3].all fun u => Try.prog.readableRec u && decide (u < Try.prog.types.size)) = true := by kernel_rfl
      have := List.all_eq_true.1 hall t (by simpa using ht)
      simpa using this)
    (ChangeSpec.witness6 (enc := enc) (C := Try.checked) (os := os) false ⟨#[], #[.agg #[.int .i64 0, .int .i64 0, .int .i64 0, .int .i64 0, .string ⟨#[]⟩, .bool false, .int .i64 0, .int .i64 0, .slice none 0 0, .int .i64 0, .int .i64 0, .int .i64 0, .int .i64 0], .int .i64 0, .int .i64 0, .int .i64 0], []⟩ 8 (by kernel_rfl) (by kernel_rfl) (by kernel_rfl) (by kernel_rfl)) ?_
  intro W base args ds p hval hA
  have hG : Glob W := rfl
  rw [Try.params3] at hA hval
  obtain ⟨v0, r'0, d0, e'0, p0, q'0, ha, rfl, rfl, h0, hA⟩ := trodAll_cons hA
  obtain ⟨v1, r'1, d1, e'1, p1, q'1, rfl, rfl, rfl, h1, hA⟩ := trodAll_cons hA
  obtain ⟨v2, r'2, d2, e'2, p2, q'2, rfl, rfl, rfl, h2, hA⟩ := trodAll_cons hA
  obtain ⟨v3, r'3, d3, e'3, p3, q'3, rfl, rfl, rfl, h3, hA⟩ := trodAll_cons hA
  obtain ⟨rfl, rfl, rfl⟩ := trodAll_nil hA
  obtain rfl : args = #[v0, v1, v2, v3] := by cases args; simp_all
  clear ha
  obtain ⟨A0, n0, c0, x0, rfl, b0⟩ := open_J (hval 0 26 v0 rfl rfl) h0
  obtain ⟨i1, rfl, rfl, rfl, m1⟩ := open_int Try.underlying3 (hval 1 3 v1 rfl rfl) h1
  obtain ⟨i2, rfl, rfl, rfl, m2⟩ := open_int Try.underlying2 (hval 2 2 v2 rfl rfl) h2
  obtain ⟨i3, rfl, rfl, rfl, m3⟩ := open_int Try.underlying3 (hval 3 3 v3 rfl rfl) h3
  exact ⟨rfl, jobRight_walk H A0 n0 c0 x0 i1 i2 i3 W b0 (i64_wf m1) (i64_wf m2) (i64_wf m3)⟩

theorem jobRight_holds (H : JobOk) : Rows.JobRightSaid :=
  OpenClaim.holds_of_wide 3 Try.f3 rfl rfl rfl rfl rfl rfl rfl ⟨rfl, rfl, rfl, rfl, rfl⟩ rfl rfl rfl rfl rfl (by kernel_rfl) Try.func3 (by kernel_rfl)
    (of_decide_eq_true (by kernel_rfl)) (by unfold Func.isWrapper; first | (rw [if_pos (by decide +kernel)]; kernel_rfl) | (rw [if_neg (by decide +kernel)]; exact ⟨rfl, rfl⟩))
    (fun os started H' enc _ => jobRight_lifted H os started H' enc)

end Go.Proofs.Ytpaabeadiokgoaa
