/- QueueAdds holds: a job that comes changes no other one; it waits, came now, and is ready just if all that it needs is done. The statement QueueAdds. No condition: every input. -/
import Derived.Test.YtimgdlddfnglaaaMg06
import Derived.Test.YtimgdlddfnglaaaZQueueLAdds
namespace Go.Proofs.Ytimgdlddfnglaaa
open Go.ChangeShapes Go.WideShapes Go.ChangeAt Go.RowKit

set_option maxRecDepth 100000 in
theorem queueAdds_lifted (H : QueueOk) (os : Os) (started : os.Started) (H' : Type) (enc : TypeId × Value → H') :
    ReturnsInHanded {} Try.checked os 6 .any (Rows.queueAddsSpec.pre6 enc Try.prog Try.f6 Rows.queueAddsRow.domain false)
      (Rows.queueAddsSpec.post enc Try.prog Try.f6 false true false false) := by
  refine lifted_true started (by kernel_rfl) Try.func6 (by kernel_rfl) rfl
    (fun t ht => by
      have hp : Try.f6.params = #[22, 27, 28, 2] := Try.params6
      rw [hp] at ht
      have hall : ([22, 27, 28, 2].all fun u => Try.prog.readableRec u && decide (u < Try.prog.types.size)) = true := by kernel_rfl
      have := List.all_eq_true.1 hall t (by simpa using ht)
      simpa using this)
    (ChangeSpec.witness6 (enc := enc) (C := Try.checked) (os := os) false ⟨#[], #[.slice none 0 0, .agg #[.int .i64 0, .int .i64 0, .int .i64 0, .string ⟨#[]⟩, .bool false, .int .i64 0, .int .i64 0], .slice none 0 0, .int .i64 0], []⟩ 8 (by kernel_rfl) (by kernel_rfl) (by kernel_rfl) (by kernel_rfl)) ?_
  intro W base args ds p hval hA
  have hG : Glob W := rfl
  rw [Try.params6] at hA hval
  obtain ⟨v0, r'0, d0, e'0, p0, q'0, ha, rfl, rfl, h0, hA⟩ := trodAll_cons hA
  obtain ⟨v1, r'1, d1, e'1, p1, q'1, rfl, rfl, rfl, h1, hA⟩ := trodAll_cons hA
  obtain ⟨v2, r'2, d2, e'2, p2, q'2, rfl, rfl, rfl, h2, hA⟩ := trodAll_cons hA
  obtain ⟨v3, r'3, d3, e'3, p3, q'3, rfl, rfl, rfl, h3, hA⟩ := trodAll_cons hA
  obtain ⟨rfl, rfl, rfl⟩ := trodAll_nil hA
  obtain rfl : args = #[v0, v1, v2, v3] := by cases args; simp_all
  clear ha
  obtain ⟨A0, n0, c0, x0, rfl, b0⟩ := open_RQ (hval 0 22 v0 rfl rfl) h0
  obtain ⟨s1, rfl, a1⟩ := open_S (hval 1 27 v1 rfl rfl) h1
  obtain ⟨A2, n2, c2, x2, rfl, r2, j2, z2, l2, m2⟩ := open_RJ (hval 2 28 v2 rfl rfl) h2
  obtain ⟨i3, rfl, rfl, rfl, m3⟩ := open_int Try.underlying2 (hval 3 2 v3 rfl rfl) h3
  exact ⟨rfl, queueAdds_walk H A0 n0 c0 x0 s1 A2 n2 c2 x2 i3 W b0 a1 ⟨r2, z2, l2, m2, j2⟩ (i64_wf m3)⟩

theorem queueAdds_holds (H : QueueOk) : Rows.QueueAddsSaid :=
  OpenClaim.holds_of_wide 6 Try.f6 rfl rfl rfl rfl rfl rfl rfl ⟨rfl, rfl, rfl, rfl, rfl⟩ rfl rfl rfl rfl rfl (by kernel_rfl) Try.func6 (by kernel_rfl)
    (of_decide_eq_true (by kernel_rfl)) (by unfold Func.isWrapper; first | (rw [if_pos (by decide +kernel)]; kernel_rfl) | (rw [if_neg (by decide +kernel)]; exact ⟨rfl, rfl⟩))
    (fun os started H' enc _ => queueAdds_lifted H os started H' enc)

end Go.Proofs.Ytimgdlddfnglaaa
