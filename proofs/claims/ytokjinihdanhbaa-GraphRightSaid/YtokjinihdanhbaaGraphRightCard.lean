/- GraphRight holds: any list of things is a graph or not; what is under and above a thing, its node, the kinds of any set, and all that it is part of, are the document's. The statement GraphRight. No condition: every input. -/
import Derived.Test.YtokjinihdanhbaaGraphFrame
import Derived.Test.YtokjinihdanhbaaGraphLRight
namespace Go.Proofs.Ytokjinihdanhbaa
open Go.ChangeShapes Go.WideShapes Go.ChangeAt Go.RowKit

set_option maxRecDepth 100000 in
theorem graphRight_lifted (H : GraphOk) (os : Os) (started : os.Started) (H' : Type) (enc : TypeId × Value → H') :
    ReturnsInHanded {} Try.checked os 3 .any (Rows.graphRightSpec.pre6 enc Try.prog Try.f3 Rows.graphRightRow.domain false)
      (Rows.graphRightSpec.post enc Try.prog Try.f3 false true false false) := by
  refine lifted_true started (by kernel_rfl) Try.func3 (by kernel_rfl) rfl
    (fun t ht => by
      have hp : Try.f3.params = #[22, 3, 23, 9] := Try.params3
      rw [hp] at ht
      have hall : ([22, 3, 23, 9].all fun u => Try.prog.readableRec u && decide (u < Try.prog.types.size)) = true := by kernel_rfl
      have := List.all_eq_true.1 hall t (by simpa using ht)
      simpa using this)
    (ChangeSpec.witness6 (enc := enc) (C := Try.checked) (os := os) false ⟨#[], #[.slice none 0 0, .int .i64 0, .slice none 0 0, .string ⟨#[]⟩], []⟩ 8 (by kernel_rfl) (by kernel_rfl) (by kernel_rfl) (by kernel_rfl)) ?_
  intro W base args ds p hval hA
  have hG : Glob W := rfl
  rw [Try.params3] at hA hval
  obtain ⟨v0, r'0, d0, e'0, p0, q'0, ha, rfl, rfl, h0, hA⟩ := trodAll_cons hA
  obtain ⟨v1, r'1, d1, e'1, p1, q'1, rfl, rfl, rfl, h1, hA⟩ := trodAll_cons hA
  obtain ⟨v2, r'2, d2, e'2, p2, q'2, rfl, rfl, rfl, h2, hA⟩ := trodAll_cons hA
  obtain ⟨v3, r'3, d3, e'3, p3, q'3, rfl, rfl, rfl, h3, hA⟩ := trodAll_cons hA
  obtain ⟨rfl, rfl, rfl⟩ := trodAll_nil hA
  obtain rfl : args = #[v0, v1, v2, v3] := by cases args; simp_all
  clear ha
  obtain ⟨A0, n0, c0, x0, rfl, r0, z0, l0, m0⟩ := open_RG (hval 0 22 v0 rfl rfl) h0
  obtain ⟨i1, rfl, rfl, rfl, m1⟩ := open_int Try.underlying3 (hval 1 3 v1 rfl rfl) h1
  obtain ⟨A2, n2, c2, x2, rfl, r2, j2, z2, l2, m2⟩ := open_RJ (hval 2 23 v2 rfl rfl) h2
  obtain ⟨s3, rfl, rfl, rfl, m3⟩ := Go.ChangeMaps.open_string Try.underlying9 (hval 3 9 v3 rfl rfl) h3
  exact ⟨rfl, graphRight_walk H A0 n0 c0 A2 n2 c2 x0 x2 i1 s3 W r0 z0 l0 m0 r2 j2 z2 l2 m2 (i64_wf m1) m3 hG⟩

theorem graphRight_holds (H : GraphOk) : Rows.GraphRightSaid :=
  OpenClaim.holds_of_wide 3 Try.f3 rfl rfl rfl rfl rfl rfl rfl ⟨rfl, rfl, rfl, rfl, rfl⟩ rfl rfl rfl rfl rfl (by kernel_rfl) Try.func3 (by kernel_rfl)
    (of_decide_eq_true (by kernel_rfl)) (by unfold Func.isWrapper; first | (rw [if_pos (by decide +kernel)]; kernel_rfl) | (rw [if_neg (by decide +kernel)]; exact ⟨rfl, rfl⟩))
    (fun os started H' enc _ => graphRight_lifted H os started H' enc)

end Go.Proofs.Ytokjinihdanhbaa
