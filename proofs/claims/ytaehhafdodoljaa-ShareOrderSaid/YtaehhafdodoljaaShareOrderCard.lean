/- ShareOrder holds: the order tells each place once; no share is less than one ahead, and none is no number. The statement ShareOrder. No condition: every input. -/
import Derived.Test.YtaehhafdodoljaaShareFrame
import Derived.Test.YtaehhafdodoljaaShareLOrder
namespace Go.Proofs.Ytaehhafdodoljaa
open Go.ChangeShapes Go.WideShapes Go.ChangeAt Go.RowKit

set_option maxRecDepth 100000 in
theorem shareOrder_lifted (H : ShareOk) (os : Os) (started : os.Started) (H' : Type) (enc : TypeId × Value → H') :
    ReturnsInHanded {} Try.checked os 5 .any (Rows.shareOrderSpec.pre6 enc Try.prog Try.f5 Rows.shareOrderRow.domain false)
      (Rows.shareOrderSpec.post enc Try.prog Try.f5 false true false false) := by
  refine lifted_true started (by kernel_rfl) Try.func5 (by kernel_rfl) rfl
    (fun t ht => by
      have hp : Try.f5.params = #[33] := Try.params5
      rw [hp] at ht
      have hall : ([33].all fun u => Try.prog.readableRec u && decide (u < Try.prog.types.size)) = true := by kernel_rfl
      have := List.all_eq_true.1 hall t (by simpa using ht)
      simpa using this)
    (ChangeSpec.witness6 (enc := enc) (C := Try.checked) (os := os) false ⟨#[], #[.slice none 0 0], []⟩ 8 (by kernel_rfl) (by kernel_rfl) (by kernel_rfl) (by kernel_rfl)) ?_
  intro W base args ds p hval hA
  have hG : Glob W := rfl
  rw [Try.params5] at hA hval
  obtain ⟨v0, r'0, d0, e'0, p0, q'0, ha, rfl, rfl, h0, hA⟩ := trodAll_cons hA
  obtain ⟨rfl, rfl, rfl⟩ := trodAll_nil hA
  obtain rfl : args = #[v0] := by cases args; simp_all
  clear ha
  obtain ⟨A0, n0, c0, x0, rfl, b0⟩ := open_RU (hval 0 33 v0 rfl rfl) h0
  exact ⟨rfl, shareOrder_walk H A0 n0 c0 x0 W b0⟩

theorem shareOrder_holds (H : ShareOk) : Rows.ShareOrderSaid :=
  OpenClaim.holds_of_wide 5 Try.f5 rfl rfl rfl rfl rfl rfl rfl ⟨rfl, rfl, rfl, rfl, rfl⟩ rfl rfl rfl rfl rfl (by kernel_rfl) Try.func5 (by kernel_rfl)
    (of_decide_eq_true (by kernel_rfl)) (by unfold Func.isWrapper; first | (rw [if_pos (by decide +kernel)]; kernel_rfl) | (rw [if_neg (by decide +kernel)]; exact ⟨rfl, rfl⟩))
    (fun os started H' enc _ => shareOrder_lifted H os started H' enc)

end Go.Proofs.Ytaehhafdodoljaa
