/- CodePuts holds: any spec, set and list of parts has the document's bytes, or is refused. The statement CodePuts. No condition: every input. -/
import Derived.Test.YtlpogkcfjbabaaaMg17
import Derived.Test.YtlpogkcfjbabaaaZCodeLPuts
namespace Go.Proofs.Ytlpogkcfjbabaaa
open Go.ChangeShapes Go.WideShapes Go.ChangeAt Go.RowKit

set_option maxRecDepth 100000 in
theorem codePuts_lifted (H : CodeOk) (os : Os) (started : os.Started) (H' : Type) (enc : TypeId × Value → H') :
    ReturnsInHanded {} Try.checked os 3 .any (Rows.codePutsSpec.pre6 enc Try.prog Try.f3 Rows.codePutsRow.domain false)
      (Rows.codePutsSpec.post enc Try.prog Try.f3 false true false false) := by
  refine lifted_true started (by kernel_rfl) Try.func3 (by kernel_rfl) rfl
    (fun t ht => by
      have hp : Try.f3.params = #[23, 24, 25] := Try.params3
      rw [hp] at ht
      have hall : ([23, 24, 25].all fun u => Try.prog.readableRec u && decide (u < Try.prog.types.size)) = true := by kernel_rfl
      have := List.all_eq_true.1 hall t (by simpa using ht)
      simpa using this)
    (ChangeSpec.witness6 (enc := enc) (C := Try.checked) (os := os) false ⟨#[], #[.agg #[.int .i64 0, .int .i64 0, .int .i64 0, .string ⟨#[]⟩, .bool false, .int .i64 0, .int .i64 0], .slice none 0 0, .slice none 0 0], []⟩ 8 (by kernel_rfl) (by kernel_rfl) (by kernel_rfl) (by kernel_rfl)) ?_
  intro W base args ds p hval hA
  have hG : Glob W := rfl
  rw [Try.params3] at hA hval
  obtain ⟨v0, r'0, d0, e'0, p0, q'0, ha, rfl, rfl, h0, hA⟩ := trodAll_cons hA
  obtain ⟨v1, r'1, d1, e'1, p1, q'1, rfl, rfl, rfl, h1, hA⟩ := trodAll_cons hA
  obtain ⟨v2, r'2, d2, e'2, p2, q'2, rfl, rfl, rfl, h2, hA⟩ := trodAll_cons hA
  obtain ⟨rfl, rfl, rfl⟩ := trodAll_nil hA
  obtain rfl : args = #[v0, v1, v2] := by cases args; simp_all
  clear ha
  obtain ⟨s0, rfl, a0⟩ := open_S (hval 0 23 v0 rfl rfl) h0
  obtain ⟨A1, n1, c1, x1, rfl, r1, j1, z1, l1, m1⟩ := open_RJ (hval 1 24 v1 rfl rfl) h1
  obtain ⟨A2, n2, c2, x2, rfl, b2⟩ := open_RP (hval 2 25 v2 rfl rfl) h2
  exact ⟨rfl, codePuts_walk H s0 A1 n1 c1 x1 A2 n2 c2 x2 W a0 r1 j1 z1 l1 m1 b2 hG⟩

theorem codePuts_holds (H : CodeOk) : Rows.CodePutsSaid :=
  OpenClaim.holds_of_wide 3 Try.f3 rfl rfl rfl rfl rfl rfl rfl ⟨rfl, rfl, rfl, rfl, rfl⟩ rfl rfl rfl rfl rfl (by kernel_rfl) Try.func3 (by kernel_rfl)
    (of_decide_eq_true (by kernel_rfl)) (by unfold Func.isWrapper; first | (rw [if_pos (by decide +kernel)]; kernel_rfl) | (rw [if_neg (by decide +kernel)]; exact ⟨rfl, rfl⟩))
    (fun os started H' enc _ => codePuts_lifted H os started H' enc)

end Go.Proofs.Ytlpogkcfjbabaaa
