/- PoolsFirst holds: what First tells can be taken of all kinds; at an earlier time it can't; what was taken can be given back. The statement PoolsFirst. No condition: every input. -/
import Derived.Test.YtkhnlbkghjjdnaaPoolsFrame
import Derived.Test.YtkhnlbkghjjdnaaPoolsLFirst
namespace Go.Proofs.Ytkhnlbkghjjdnaa
open Go.ChangeShapes Go.WideShapes Go.ChangeAt Go.RowKit

set_option maxRecDepth 100000 in
theorem poolsFirst_lifted (H : PoolsOk) (os : Os) (started : os.Started) (H' : Type) (enc : TypeId × Value → H') :
    ReturnsInHanded {} Try.checked os 6 .any (Rows.poolsFirstSpec.pre6 enc Try.prog Try.f6 Rows.poolsFirstRow.domain false)
      (Rows.poolsFirstSpec.post enc Try.prog Try.f6 false true false false) := by
  refine lifted_true started (by kernel_rfl) Try.func6 (by kernel_rfl) rfl
    (fun t ht => by
      have hp : Try.f6.params = #[22, 2, 2, 23, 2] := Try.params6
      rw [hp] at ht
      have hall : ([22, 2, 2, 23, 2].all fun u => Try.prog.readableRec u && decide (u < Try.prog.types.size)) = true := by kernel_rfl
      have := List.all_eq_true.1 hall t (by simpa using ht)
      simpa using this)
    (ChangeSpec.witness6 (enc := enc) (C := Try.checked) (os := os) false ⟨#[], #[.slice none 0 0, .int .i64 0, .int .i64 0, .slice none 0 0, .int .i64 0], []⟩ 8 (by kernel_rfl) (by kernel_rfl) (by kernel_rfl) (by kernel_rfl)) ?_
  intro W base args ds p hval hA
  rw [Try.params6] at hA hval
  obtain ⟨v0, r'0, d0, e'0, p0, q'0, ha, rfl, rfl, h0, hA⟩ := trodAll_cons hA
  obtain ⟨v1, r'1, d1, e'1, p1, q'1, rfl, rfl, rfl, h1, hA⟩ := trodAll_cons hA
  obtain ⟨v2, r'2, d2, e'2, p2, q'2, rfl, rfl, rfl, h2, hA⟩ := trodAll_cons hA
  obtain ⟨v3, r'3, d3, e'3, p3, q'3, rfl, rfl, rfl, h3, hA⟩ := trodAll_cons hA
  obtain ⟨v4, r'4, d4, e'4, p4, q'4, rfl, rfl, rfl, h4, hA⟩ := trodAll_cons hA
  obtain ⟨rfl, rfl, rfl⟩ := trodAll_nil hA
  obtain rfl : args = #[v0, v1, v2, v3, v4] := by cases args; simp_all
  clear ha
  obtain ⟨A0, n0, c0, x0, rfl, r0, z0, l0, m0⟩ := open_RSS (hval 0 22 v0 rfl rfl) h0
  obtain ⟨i1, rfl, rfl, rfl, m1⟩ := open_int Try.underlying2 (hval 1 2 v1 rfl rfl) h1
  obtain ⟨i2, rfl, rfl, rfl, m2⟩ := open_int Try.underlying2 (hval 2 2 v2 rfl rfl) h2
  obtain ⟨A3, n3, c3, x3, rfl, r3, j3, z3, l3, m3⟩ := open_RJ (hval 3 23 v3 rfl rfl) h3
  obtain ⟨i4, rfl, rfl, rfl, m4⟩ := open_int Try.underlying2 (hval 4 2 v4 rfl rfl) h4
  exact ⟨rfl, poolsFirst_walk H A0 n0 c0 A3 n3 c3 x0 x3 i1 i2 i4 W r0 z0 l0 m0 r3 m3 j3 (i64_wf m1) (i64_wf m2) (i64_wf m4)⟩

theorem poolsFirst_holds (H : PoolsOk) : Rows.PoolsFirstSaid :=
  OpenClaim.holds_of_wide 6 Try.f6 rfl rfl rfl rfl rfl rfl rfl ⟨rfl, rfl, rfl, rfl, rfl⟩ rfl rfl rfl rfl rfl (by kernel_rfl) Try.func6 (by kernel_rfl)
    (of_decide_eq_true (by kernel_rfl)) (by unfold Func.isWrapper; first | (rw [if_pos (by decide +kernel)]; kernel_rfl) | (rw [if_neg (by decide +kernel)]; exact ⟨rfl, rfl⟩))
    (fun os started H' enc _ => poolsFirst_lifted H os started H' enc)

end Go.Proofs.Ytkhnlbkghjjdnaa
