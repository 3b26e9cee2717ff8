/- MatchTags holds: with a tag just nodes of that tag suit; without one at least as many as with any. The statement MatchTags. No condition: every input. -/
import Derived.Test.YtglboolijhekkaaMg02
import Derived.Test.YtglboolijhekkaaZMatchLTags
namespace Go.Proofs.Ytglboolijhekkaa
open Go.ChangeShapes Go.WideShapes Go.ChangeAt Go.RowKit

set_option maxRecDepth 100000 in
theorem matchTags_lifted (H : MatchOk) (GO : GraphOk) (HSP : SpecOk) (os : Os) (started : os.Started) (H' : Type) (enc : TypeId × Value → H') :
    ReturnsInHanded {} Try.checked os 4 .any (Rows.matchTagsSpec.pre6 enc Try.prog Try.f4 Rows.matchTagsRow.domain false)
      (Rows.matchTagsSpec.post enc Try.prog Try.f4 false true false false) := by
  refine lifted_true started (by kernel_rfl) Try.func4 (by kernel_rfl) rfl
    (fun t ht => by
      have hp : Try.f4.params = #[22, 23, 25] := Try.params4
      rw [hp] at ht
      have hall : ([22, 23, 25].all fun u => Try.prog.readableRec u && decide (u < Try.prog.types.size)) = true := by kernel_rfl
      have := List.all_eq_true.1 hall t (by simpa using ht)
      simpa using this)
    (ChangeSpec.witness6 (enc := enc) (C := Try.checked) (os := os) false ⟨#[], #[.slice none 0 0, .slice none 0 0, .agg #[.int .i64 0, .int .i64 0, .int .i64 0, .string ⟨#[]⟩, .bool false, .int .i64 0, .int .i64 0]], []⟩ 8 (by kernel_rfl) (by kernel_rfl) (by kernel_rfl) (by kernel_rfl)) ?_
  intro W base args ds p hval hA
  have hG : Glob W := rfl
  rw [Try.params4] at hA hval
  obtain ⟨v0, r'0, d0, e'0, p0, q'0, ha, rfl, rfl, h0, hA⟩ := trodAll_cons hA
  obtain ⟨v1, r'1, d1, e'1, p1, q'1, rfl, rfl, rfl, h1, hA⟩ := trodAll_cons hA
  obtain ⟨v2, r'2, d2, e'2, p2, q'2, rfl, rfl, rfl, h2, hA⟩ := trodAll_cons hA
  obtain ⟨rfl, rfl, rfl⟩ := trodAll_nil hA
  obtain rfl : args = #[v0, v1, v2] := by cases args; simp_all
  clear ha
  obtain ⟨A0, n0, c0, x0, rfl, r0, z0, l0, m0⟩ := open_RG (hval 0 22 v0 rfl rfl) h0
  obtain ⟨A1, n1, c1, x1, rfl, r1, j1, z1, l1, m1⟩ := open_RJ (hval 1 23 v1 rfl rfl) h1
  obtain ⟨s2, rfl, a2⟩ := open_S (hval 2 25 v2 rfl rfl) h2
  exact ⟨rfl, matchTags_walk H GO HSP A0 n0 c0 A1 n1 c1 x0 x1 s2 W r0 z0 l0 m0 r1 j1 z1 l1 m1 a2 hG⟩

theorem matchTags_holds (H : MatchOk) (GO : GraphOk) (HSP : SpecOk) : Rows.MatchTagsSaid :=
  OpenClaim.holds_of_wide 4 Try.f4 rfl rfl rfl rfl rfl rfl rfl ⟨rfl, rfl, rfl, rfl, rfl⟩ rfl rfl rfl rfl rfl (by kernel_rfl) Try.func4 (by kernel_rfl)
    (of_decide_eq_true (by kernel_rfl)) (by unfold Func.isWrapper; first | (rw [if_pos (by decide +kernel)]; kernel_rfl) | (rw [if_neg (by decide +kernel)]; exact ⟨rfl, rfl⟩))
    (fun os started H' enc _ => matchTags_lifted H GO HSP os started H' enc)

end Go.Proofs.Ytglboolijhekkaa
