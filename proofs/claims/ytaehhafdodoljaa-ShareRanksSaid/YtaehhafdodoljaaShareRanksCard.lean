/- ShareRanks holds: the order of any list, and anybody's bonus, is the document's. The statement ShareRanks. No condition: every input. -/
import Derived.Test.YtaehhafdodoljaaShareFrame
import Derived.Test.YtaehhafdodoljaaShareLRanks
namespace Go.Proofs.Ytaehhafdodoljaa
open Go.ChangeShapes Go.WideShapes Go.ChangeAt Go.RowKit

set_option maxRecDepth 100000 in
theorem shareRanks_lifted (H : ShareOk) (os : Os) (started : os.Started) (H' : Type) (enc : TypeId × Value → H') :
    ReturnsInHanded {} Try.checked os 4 .any (Rows.shareRanksSpec.pre6 enc Try.prog Try.f4 Rows.shareRanksRow.domain false)
      (Rows.shareRanksSpec.post enc Try.prog Try.f4 false true false false) := by
  refine lifted_true started (by kernel_rfl) Try.func4 (by kernel_rfl) rfl
    (fun t ht => by
      have hp : Try.f4.params = #[33, 3] := Try.params4
      rw [hp] at ht
      have hall : ([33, 3].all fun u => Try.prog.readableRec u && decide (u < Try.prog.types.size)) = true := by kernel_rfl
      have := List.all_eq_true.1 hall t (by simpa using ht)
      simpa using this)
    (ChangeSpec.witness6 (enc := enc) (C := Try.checked) (os := os) false ⟨#[], #[.slice none 0 0, .int .i64 0], []⟩ 8 (by kernel_rfl) (by kernel_rfl) (by kernel_rfl) (by kernel_rfl)) ?_
  intro W base args ds p hval hA
  have hG : Glob W := rfl
  rw [Try.params4] at hA hval
  obtain ⟨v0, r'0, d0, e'0, p0, q'0, ha, rfl, rfl, h0, hA⟩ := trodAll_cons hA
  obtain ⟨v1, r'1, d1, e'1, p1, q'1, rfl, rfl, rfl, h1, hA⟩ := trodAll_cons hA
  obtain ⟨rfl, rfl, rfl⟩ := trodAll_nil hA
  obtain rfl : args = #[v0, v1] := by cases args; simp_all
  clear ha
  obtain ⟨A0, n0, c0, x0, rfl, b0⟩ := open_RU (hval 0 33 v0 rfl rfl) h0
  obtain ⟨i1, rfl, rfl, rfl, m1⟩ := open_int Try.underlying3 (hval 1 3 v1 rfl rfl) h1
  exact ⟨rfl, shareRanks_walk H A0 n0 c0 x0 i1 W b0 (i64_wf m1)⟩

theorem shareRanks_holds (H : ShareOk) : Rows.ShareRanksSaid :=
  OpenClaim.holds_of_wide 4 Try.f4 rfl rfl rfl rfl rfl rfl rfl ⟨rfl, rfl, rfl, rfl, rfl⟩ rfl rfl rfl rfl rfl (by kernel_rfl) Try.func4 (by kernel_rfl)
    (of_decide_eq_true (by kernel_rfl)) (by unfold Func.isWrapper; first | (rw [if_pos (by decide +kernel)]; kernel_rfl) | (rw [if_neg (by decide +kernel)]; exact ⟨rfl, rfl⟩))
    (fun os started H' enc _ => shareRanks_lifted H os started H' enc)

end Go.Proofs.Ytaehhafdodoljaa
