/- SlotMore holds: with more that may be used, or a later until, a job that has a slot has one, and no later one. The card of the statement SlotMore. No condition: every input, at the tables that the program's text lays. -/
import Derived.Test.YtpoalgkgomljmaaDoorCards
import Derived.Test.YtpoalgkgomljmaaDoorMg05
import Derived.Test.YtpoalgkgomljmaaDoorZSlotLMore
namespace Go.Proofs.YtpoalgkgomljmaaDoor
open Go.ChangeShapes Go.WideShapes Go.ChangeAt Go.RowKit

theorem slotMore_glob (W : World) (h : laidMetH Tryd.prog Rows.slotMoreRow.laid W) : Glob W := glob_of 0 (MakeChecks.laidMetH_plain _ _ _ (by kernel_rfl)) rfl h

set_option maxRecDepth 100000 in
theorem slotMore_lifted (H : SlotOk) (os : Os) (started : os.Started) (H' : Type) (enc : TypeId × Value → H') :
    ReturnsInHanded {} Tryd.checked os 3 .any (fun w args => (Rows.slotMoreSpec.pre enc Tryd.prog Tryd.f3 Rows.slotMoreRow.domain false w args ∧ laidMetH Tryd.prog Rows.slotMoreRow.laid w) ∧ sizedMet enc Tryd.prog Tryd.f3 (OpenSpec.ofChange Rows.slotMoreSpec) false w args)
      (Rows.slotMoreSpec.post enc Tryd.prog Tryd.f3 false true false false) := by
  refine lifted_tied slotMore_glob started (by kernel_rfl) Tryd.func3 (by kernel_rfl) rfl
    (fun t ht => by
      have hp : Tryd.f3.params = #[22, 23, 23, 24, 26, 2, 2, 27] := Tryd.params3
      rw [hp] at ht
      have hall : ([22, 23, 23, 24, 26, 2, 2, 27].all fun u => Tryd.prog.readableRec u && decide (u < Tryd.prog.types.size)) = true := by kernel_rfl
      have := List.all_eq_true.1 hall t (by simpa using ht)
      simpa using this)
    (ChangeSpec.witness_shaped (enc := enc) (C := Tryd.checked) (os := os) (X := fun w _ => laidMetH Tryd.prog Rows.slotMoreRow.laid w) false (World.laidAll Tryd.prog os Rows.slotMoreRow.laid) #[.slice none 0 0, .slice none 0 0, .slice none 0 0, .slice none 0 0, .agg #[.int .i64 0, .int .i64 0, .int .i64 0, .string ⟨#[]⟩, .bool false, .int .i64 0, .int .i64 0], .int .i64 0, .int .i64 0, .int .u32 0] 8 (World.laidAll_os _ _ _)
      (World.shaped_of_ZipB (by kernel_rfl) (by kernel_rfl)) (by kernel_rfl) (by kernel_rfl) (by kernel_rfl)
      (by rw [MakeChecks.laidMetH_plain _ _ _ (by kernel_rfl)]; exact laidMet_laidAll _ (by kernel_rfl) (by kernel_rfl))) ?_
  intro W base args ds p hval hA hG
  rw [Tryd.params3] at hA hval
  obtain ⟨v0, r'0, d0, e'0, p0, q'0, ha, rfl, rfl, h0, hA⟩ := trodAll_cons hA
  obtain ⟨v1, r'1, d1, e'1, p1, q'1, rfl, rfl, rfl, h1, hA⟩ := trodAll_cons hA
  obtain ⟨v2, r'2, d2, e'2, p2, q'2, rfl, rfl, rfl, h2, hA⟩ := trodAll_cons hA
  obtain ⟨v3, r'3, d3, e'3, p3, q'3, rfl, rfl, rfl, h3, hA⟩ := trodAll_cons hA
  obtain ⟨v4, r'4, d4, e'4, p4, q'4, rfl, rfl, rfl, h4, hA⟩ := trodAll_cons hA
  obtain ⟨v5, r'5, d5, e'5, p5, q'5, rfl, rfl, rfl, h5, hA⟩ := trodAll_cons hA
  obtain ⟨v6, r'6, d6, e'6, p6, q'6, rfl, rfl, rfl, h6, hA⟩ := trodAll_cons hA
  obtain ⟨v7, r'7, d7, e'7, p7, q'7, rfl, rfl, rfl, h7, hA⟩ := trodAll_cons hA
  obtain ⟨rfl, rfl, rfl⟩ := trodAll_nil hA
  obtain rfl : args = #[v0, v1, v2, v3, v4, v5, v6, v7] := by cases args; simp_all
  clear ha
  obtain ⟨A0, n0, c0, x0, rfl, r0, z0, l0, m0⟩ := open_RG (hval 0 22 v0 rfl rfl) h0
  obtain ⟨A1, n1, c1, x1, rfl, r1, j1, z1, l1, m1⟩ := open_RJ (hval 1 23 v1 rfl rfl) h1
  obtain ⟨A2, n2, c2, x2, rfl, r2, j2, z2, l2, m2⟩ := open_RJ (hval 2 23 v2 rfl rfl) h2
  obtain ⟨A3, n3, c3, x3, rfl, b3⟩ := open_RT (hval 3 24 v3 rfl rfl) h3
  obtain ⟨s4, rfl, a4⟩ := open_S (hval 4 26 v4 rfl rfl) h4
  obtain ⟨i5, rfl, rfl, rfl, m5⟩ := open_int Tryd.underlying2 (hval 5 2 v5 rfl rfl) h5
  obtain ⟨i6, rfl, rfl, rfl, m6⟩ := open_int Tryd.underlying2 (hval 6 2 v6 rfl rfl) h6
  obtain ⟨i7, rfl, rfl, rfl, m7⟩ := open_int Tryd.underlying27 (hval 7 27 v7 rfl rfl) h7
  exact ⟨rfl, slotMore_walk H A0 n0 c0 x0 A1 n1 c1 x1 A2 n2 c2 x2 A3 n3 c3 x3 s4 i5 i6 i7 W r0 z0 l0 ⟨r1, z1, l1, m1, j1⟩ ⟨r2, z2, l2, m2, j2⟩ b3 a4 (i64_wf m5) (i64_wf m6) (u32_wf m7) hG⟩

theorem slotMore_holds (H : SlotOk) : Rows.SlotMoreSaid :=
  OpenClaim.holds_of_wide 3 Tryd.f3 rfl rfl rfl rfl rfl rfl rfl ⟨rfl, rfl, rfl, rfl, rfl⟩ rfl rfl rfl rfl rfl (by kernel_rfl) Tryd.func3 (by kernel_rfl)
    (of_decide_eq_true (by kernel_rfl)) (by unfold Func.isWrapper; first | (rw [if_pos (by decide +kernel)]; kernel_rfl) | (rw [if_neg (by decide +kernel)]; exact ⟨rfl, rfl⟩))
    (fun os started H' enc _ => slotMore_lifted H os started H' enc)

theorem slotMore_card (H : SlotOk) : Rows.SlotMoreCardSaid :=
  Claim7.holds_tied_plain_at .later [] _ true (true, Rows.slotMoreCard.stood.harness.2) false (slotMore_holds H) (fun _ h => by cases h) (by kernel_rfl) (fun _ h => by cases h) slotMore_row_tie rfl ⟨rfl, rfl⟩ (by kernel_rfl) rfl
    (fun f fn hf hfn => by
      obtain rfl : f = 3 := Option.some.inj ((show Tryd.prog.funcNamed "bailiwick/bailiwicklaw13.SlotMore" = some 3 by kernel_rfl).symm.trans hf) |>.symm
      obtain rfl : fn = Tryd.f3 := (Option.some.inj (Tryd.func3.symm.trans hfn)).symm
      exact ⟨by kernel_rfl, fun j t ht => by
        rw [Tryd.params3] at ht
        have hm : t ∈ [22, 23, 23, 24, 26, 2, 2, 27] := by simpa using Array.mem_of_getElem? ht
        have hall : ([22, 23, 23, 24, 26, 2, 2, 27].all fun u => !Tryd.prog.wantsStandIn u) = true := by kernel_rfl
        exact (show Tryd.prog.wantsStandIn t = false by simpa using List.all_eq_true.1 hall t hm)⟩)
    (by kernel_rfl)

end Go.Proofs.YtpoalgkgomljmaaDoor
