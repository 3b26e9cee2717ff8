/- CodeApart holds: the bytes of one spec, or set, are never the beginning of another one's. The statement CodeApart. No condition: every input. -/
import Derived.Test.YtlpogkcfjbabaaaMg17
import Derived.Test.YtlpogkcfjbabaaaZCodeLApart
namespace Go.Proofs.Ytlpogkcfjbabaaa
open Go.ChangeShapes Go.WideShapes Go.ChangeAt Go.RowKit

set_option maxRecDepth 100000 in
theorem codeApart_lifted (H : CodeOk) (os : Os) (started : os.Started) (H' : Type) (enc : TypeId × Value → H') :
    ReturnsInHanded {} Try.checked os 6 .any (Rows.codeApartSpec.pre6 enc Try.prog Try.f6 Rows.codeApartRow.domain false)
      (Rows.codeApartSpec.post enc Try.prog Try.f6 false true false false) := by
  refine lifted_true started (by kernel_rfl) Try.func6 (by kernel_rfl) rfl
    (fun t ht => by
      have hp : Try.f6.params = #[23, 23, 24, 24] := Try.params6
      rw [hp] at ht
      have hall : ([23, 23, 24, 24].all fun u => Try.prog.readableRec u && decide (u < Try.prog.types.size)) = true := by kernel_rfl
      have := List.all_eq_true.1 hall t (by simpa using ht)
      simpa using this)
    (ChangeSpec.witness6 (enc := enc) (C := Try.checked) (os := os) false ⟨#[], #[.agg #[.int .i64 0, .int .i64 0, .int .i64 0, .string ⟨#[]⟩, .bool false, .int .i64 0, .int .i64 0], .agg #[.int .i64 0, .int .i64 0, .int .i64 0, .string ⟨#[]⟩, .bool false, .int .i64 0, .int .i64 0], .slice none 0 0, .slice none 0 0], []⟩ 8 (by kernel_rfl) (by kernel_rfl) (by kernel_rfl) (by kernel_rfl)) ?_
  intro W base args ds p hval hA
  have hG : Glob W := rfl
  rw [Try.params6] at hA hval
  obtain ⟨v0, r'0, d0, e'0, p0, q'0, ha, rfl, rfl, h0, hA⟩ := trodAll_cons hA
  obtain ⟨v1, r'1, d1, e'1, p1, q'1, rfl, rfl, rfl, h1, hA⟩ := trodAll_cons hA
  obtain ⟨v2, r'2, d2, e'2, p2, q'2, rfl, rfl, rfl, h2, hA⟩ := trodAll_cons hA
  obtain ⟨v3, r'3, d3, e'3, p3, q'3, rfl, rfl, rfl, h3, hA⟩ := trodAll_cons hA
  obtain ⟨rfl, rfl, rfl⟩ := trodAll_nil hA
  obtain rfl : args = #[v0, v1, v2, v3] := by cases args; simp_all
  clear ha
  obtain ⟨s0, rfl, a0⟩ := open_S (hval 0 23 v0 rfl rfl) h0
  obtain ⟨s1, rfl, a1⟩ := open_S (hval 1 23 v1 rfl rfl) h1
  obtain ⟨A2, n2, c2, x2, rfl, r2, j2, z2, l2, m2⟩ := open_RJ (hval 2 24 v2 rfl rfl) h2
  obtain ⟨A3, n3, c3, x3, rfl, r3, j3, z3, l3, m3⟩ := open_RJ (hval 3 24 v3 rfl rfl) h3
  exact ⟨rfl, codeApart_walk H s0 s1 A2 n2 c2 x2 A3 n3 c3 x3 W a0 a1 r2 j2 z2 l2 m2 r3 j3 z3 l3 m3 hG⟩

theorem codeApart_holds (H : CodeOk) : Rows.CodeApartSaid :=
  OpenClaim.holds_of_wide 6 Try.f6 rfl rfl rfl rfl rfl rfl rfl ⟨rfl, rfl, rfl, rfl, rfl⟩ rfl rfl rfl rfl rfl (by kernel_rfl) Try.func6 (by kernel_rfl)
    (of_decide_eq_true (by kernel_rfl)) (by unfold Func.isWrapper; first | (rw [if_pos (by decide +kernel)]; kernel_rfl) | (rw [if_neg (by decide +kernel)]; exact ⟨rfl, rfl⟩))
    (fun os started H' enc _ => codeApart_lifted H os started H' enc)

end Go.Proofs.Ytlpogkcfjbabaaa
