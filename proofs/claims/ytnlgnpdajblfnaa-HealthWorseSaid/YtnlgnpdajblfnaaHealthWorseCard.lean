/- HealthWorse holds: a thing that is marked worse takes nothing into use; marked twice it is as it was marked last. The statement HealthWorse. No condition: every input. -/
import Derived.Test.YtnlgnpdajblfnaaGraphFrame
import Derived.Test.YtnlgnpdajblfnaaHealthLWorse
namespace Go.Proofs.Ytnlgnpdajblfnaa
open Go.ChangeShapes Go.WideShapes Go.ChangeAt Go.RowKit

set_option maxRecDepth 100000 in
theorem healthWorse_lifted (H : HealthOk) (os : Os) (started : os.Started) (H' : Type) (enc : TypeId × Value → H') :
    ReturnsInHanded {} Try.checked os 4 .any (Rows.healthWorseSpec.pre6 enc Try.prog Try.f4 Rows.healthWorseRow.domain false)
      (Rows.healthWorseSpec.post enc Try.prog Try.f4 false true false false) := by
  refine lifted_true started (by kernel_rfl) Try.func4 (by kernel_rfl) rfl
    (fun t ht => by
      have hp : Try.f4.params = #[22, 23, 3, 5, 5] := Try.params4
      rw [hp] at ht
      have hall : ([22, 23, 3, 5, 5].all fun u => Try.prog.readableRec u && decide (u < Try.prog.types.size)) = true := by kernel_rfl
      have := List.all_eq_true.1 hall t (by simpa using ht)
      simpa using this)
    (ChangeSpec.witness6 (enc := enc) (C := Try.checked) (os := os) false ⟨#[], #[.slice none 0 0, .slice none 0 0, .int .i64 0, .int .u8 0, .int .u8 0], []⟩ 8 (by kernel_rfl) (by kernel_rfl) (by kernel_rfl) (by kernel_rfl)) ?_
  intro W base args ds p hval hA
  have hG : Glob W := rfl
  rw [Try.params4] at hA hval
  obtain ⟨v0, r'0, d0, e'0, p0, q'0, ha, rfl, rfl, h0, hA⟩ := trodAll_cons hA
  obtain ⟨v1, r'1, d1, e'1, p1, q'1, rfl, rfl, rfl, h1, hA⟩ := trodAll_cons hA
  obtain ⟨v2, r'2, d2, e'2, p2, q'2, rfl, rfl, rfl, h2, hA⟩ := trodAll_cons hA
  obtain ⟨v3, r'3, d3, e'3, p3, q'3, rfl, rfl, rfl, h3, hA⟩ := trodAll_cons hA
  obtain ⟨v4, r'4, d4, e'4, p4, q'4, rfl, rfl, rfl, h4, hA⟩ := trodAll_cons hA
  obtain ⟨rfl, rfl, rfl⟩ := trodAll_nil hA
  obtain rfl : args = #[v0, v1, v2, v3, v4] := by cases args; simp_all
  clear ha
  obtain ⟨A0, n0, c0, x0, rfl, r0, z0, l0, m0⟩ := open_RG (hval 0 22 v0 rfl rfl) h0
  obtain ⟨A1, n1, c1, x1, rfl, r1, j1, z1, l1, m1⟩ := open_RJ (hval 1 23 v1 rfl rfl) h1
  obtain ⟨i2, rfl, rfl, rfl, m2⟩ := open_int Try.underlying3 (hval 2 3 v2 rfl rfl) h2
  obtain ⟨i3, rfl, rfl, rfl, m3⟩ := open_int Try.underlying5 (hval 3 5 v3 rfl rfl) h3
  obtain ⟨i4, rfl, rfl, rfl, m4⟩ := open_int Try.underlying5 (hval 4 5 v4 rfl rfl) h4
  exact ⟨rfl, healthWorse_walk H A0 n0 c0 A1 n1 c1 x0 x1 i2 i3 i4 W r0 z0 l0 m0 r1 j1 z1 l1 m1 (u8_wf m3) (u8_wf m4) hG⟩

theorem healthWorse_holds (H : HealthOk) : Rows.HealthWorseSaid :=
  OpenClaim.holds_of_wide 4 Try.f4 rfl rfl rfl rfl rfl rfl rfl ⟨rfl, rfl, rfl, rfl, rfl⟩ rfl rfl rfl rfl rfl (by kernel_rfl) Try.func4 (by kernel_rfl)
    (of_decide_eq_true (by kernel_rfl)) (by unfold Func.isWrapper; first | (rw [if_pos (by decide +kernel)]; kernel_rfl) | (rw [if_neg (by decide +kernel)]; exact ⟨rfl, rfl⟩))
    (fun os started H' enc _ => healthWorse_lifted H os started H' enc)

end Go.Proofs.Ytnlgnpdajblfnaa
