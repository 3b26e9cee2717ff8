/- PoolsNew holds: any amounts are pools of which so much is always free, or none. The statement PoolsNew. No condition: every input. -/
import Derived.Test.YtkhnlbkghjjdnaaPoolsFrame
import Derived.Test.YtkhnlbkghjjdnaaPoolsLNew
namespace Go.Proofs.Ytkhnlbkghjjdnaa
open Go.ChangeShapes Go.WideShapes Go.ChangeAt Go.RowKit

set_option maxRecDepth 100000 in
theorem poolsNew_lifted (H : PoolsOk) (os : Os) (started : os.Started) (H' : Type) (enc : TypeId × Value → H') :
    ReturnsInHanded {} Try.checked os 4 .any (Rows.poolsNewSpec.pre6 enc Try.prog Try.f4 Rows.poolsNewRow.domain false)
      (Rows.poolsNewSpec.post enc Try.prog Try.f4 false true false false) := by
  refine lifted_true started (by kernel_rfl) Try.func4 (by kernel_rfl) rfl
    (fun t ht => by
      have hp : Try.f4.params = #[23, 2] := Try.params4
      rw [hp] at ht
      have hall : ([23, 2].all fun u => Try.prog.readableRec u && decide (u < Try.prog.types.size)) = true := by kernel_rfl
      have := List.all_eq_true.1 hall t (by simpa using ht)
      simpa using this)
    (ChangeSpec.witness6 (enc := enc) (C := Try.checked) (os := os) false ⟨#[], #[.slice none 0 0, .int .i64 0], []⟩ 8 (by kernel_rfl) (by kernel_rfl) (by kernel_rfl) (by kernel_rfl)) ?_
  intro W base args ds p hval hA
  rw [Try.params4] at hA hval
  obtain ⟨v0, r'0, d0, e'0, p0, q'0, ha, rfl, rfl, h0, hA⟩ := trodAll_cons hA
  obtain ⟨v1, r'1, d1, e'1, p1, q'1, rfl, rfl, rfl, h1, hA⟩ := trodAll_cons hA
  obtain ⟨rfl, rfl, rfl⟩ := trodAll_nil hA
  obtain rfl : args = #[v0, v1] := by cases args; simp_all
  clear ha
  obtain ⟨A0, n0, c0, x0, rfl, r0, j0, z0, l0, m0⟩ := open_RJ (hval 0 23 v0 rfl rfl) h0
  obtain ⟨i1, rfl, rfl, rfl, m1⟩ := open_int Try.underlying2 (hval 1 2 v1 rfl rfl) h1
  exact ⟨rfl, poolsNew_walk H A0 n0 c0 x0 i1 W r0 m0 j0 (i64_wf m1)⟩

theorem poolsNew_holds (H : PoolsOk) : Rows.PoolsNewSaid :=
  OpenClaim.holds_of_wide 4 Try.f4 rfl rfl rfl rfl rfl rfl rfl ⟨rfl, rfl, rfl, rfl, rfl⟩ rfl rfl rfl rfl rfl (by kernel_rfl) Try.func4 (by kernel_rfl)
    (of_decide_eq_true (by kernel_rfl)) (by unfold Func.isWrapper; first | (rw [if_pos (by decide +kernel)]; kernel_rfl) | (rw [if_neg (by decide +kernel)]; exact ⟨rfl, rfl⟩))
    (fun os started H' enc _ => poolsNew_lifted H os started H' enc)

end Go.Proofs.Ytkhnlbkghjjdnaa
