/- SlotEmpty holds: where nothing is held a job begins at once, or never; where something is, no earlier than where nothing is. The card of the statement SlotEmpty. No condition: every input, at the tables that the program's text lays. -/
import Derived.Test.YtpoalgkgomljmaaDoorCards
import Derived.Test.YtpoalgkgomljmaaDoorMg05
import Derived.Test.YtpoalgkgomljmaaDoorZSlotLEmpty
namespace Go.Proofs.YtpoalgkgomljmaaDoor
open Go.ChangeShapes Go.WideShapes Go.ChangeAt Go.RowKit

theorem slotEmpty_glob (W : World) (h : laidMetH Tryd.prog Rows.slotEmptyRow.laid W) : Glob W := glob_of 0 (MakeChecks.laidMetH_plain _ _ _ (by kernel_rfl)) rfl h

set_option maxRecDepth 100000 in
theorem slotEmpty_lifted (H : SlotOk) (os : Os) (started : os.Started) (H' : Type) (enc : TypeId × Value → H') :
    ReturnsInHanded {} Tryd.checked os 4 .any (fun w args => (Rows.slotEmptySpec.pre enc Tryd.prog Tryd.f4 Rows.slotEmptyRow.domain false w args ∧ laidMetH Tryd.prog Rows.slotEmptyRow.laid w) ∧ sizedMet enc Tryd.prog Tryd.f4 (OpenSpec.ofChange Rows.slotEmptySpec) false w args)
      (Rows.slotEmptySpec.post enc Tryd.prog Tryd.f4 false true false false) := by
  refine lifted_tied slotEmpty_glob started (by kernel_rfl) Tryd.func4 (by kernel_rfl) rfl
    (fun t ht => by
      have hp : Tryd.f4.params = #[22, 23, 24, 26, 2, 2] := Tryd.params4
      rw [hp] at ht
      have hall : ([22, 23, 24, 26, 2, 2].all fun u => Tryd.prog.readableRec u && decide (u < Tryd.prog.types.size)) = true := by kernel_rfl
      have := List.all_eq_true.1 hall t (by simpa using ht)
      simpa using this)
    (ChangeSpec.witness_shaped (enc := enc) (C := Tryd.checked) (os := os) (X := fun w _ => laidMetH Tryd.prog Rows.slotEmptyRow.laid w) false (World.laidAll Tryd.prog os Rows.slotEmptyRow.laid) #[.slice none 0 0, .slice none 0 0, .slice none 0 0, .agg #[.int .i64 0, .int .i64 0, .int .i64 0, .string ⟨#[]⟩, .bool false, .int .i64 0, .int .i64 0], .int .i64 0, .int .i64 0] 8 (World.laidAll_os _ _ _)
      (World.shaped_of_ZipB (by kernel_rfl) (by kernel_rfl)) (by kernel_rfl) (by kernel_rfl) (by kernel_rfl)
      (by rw [MakeChecks.laidMetH_plain _ _ _ (by kernel_rfl)]; exact laidMet_laidAll _ (by kernel_rfl) (by kernel_rfl))) ?_
  intro W base args ds p hval hA hG
  rw [Tryd.params4] at hA hval
  obtain ⟨v0, r'0, d0, e'0, p0, q'0, ha, rfl, rfl, h0, hA⟩ := trodAll_cons hA
  obtain ⟨v1, r'1, d1, e'1, p1, q'1, rfl, rfl, rfl, h1, hA⟩ := trodAll_cons hA
  obtain ⟨v2, r'2, d2, e'2, p2, q'2, rfl, rfl, rfl, h2, hA⟩ := trodAll_cons hA
  obtain ⟨v3, r'3, d3, e'3, p3, q'3, rfl, rfl, rfl, h3, hA⟩ := trodAll_cons hA
  obtain ⟨v4, r'4, d4, e'4, p4, q'4, rfl, rfl, rfl, h4, hA⟩ := trodAll_cons hA
  obtain ⟨v5, r'5, d5, e'5, p5, q'5, rfl, rfl, rfl, h5, hA⟩ := trodAll_cons hA
  obtain ⟨rfl, rfl, rfl⟩ := trodAll_nil hA
  obtain rfl : args = #[v0, v1, v2, v3, v4, v5] := by cases args; simp_all
  clear ha
  obtain ⟨A0, n0, c0, x0, rfl, r0, z0, l0, m0⟩ := open_RG (hval 0 22 v0 rfl rfl) h0
  obtain ⟨A1, n1, c1, x1, rfl, r1, j1, z1, l1, m1⟩ := open_RJ (hval 1 23 v1 rfl rfl) h1
  obtain ⟨A2, n2, c2, x2, rfl, b2⟩ := open_RT (hval 2 24 v2 rfl rfl) h2
  obtain ⟨s3, rfl, a3⟩ := open_S (hval 3 26 v3 rfl rfl) h3
  obtain ⟨i4, rfl, rfl, rfl, m4⟩ := open_int Tryd.underlying2 (hval 4 2 v4 rfl rfl) h4
  obtain ⟨i5, rfl, rfl, rfl, m5⟩ := open_int Tryd.underlying2 (hval 5 2 v5 rfl rfl) h5
  exact ⟨rfl, slotEmpty_walk H A0 n0 c0 x0 A1 n1 c1 x1 A2 n2 c2 x2 s3 i4 i5 W r0 z0 l0 m0 r1 j1 z1 l1 m1 b2 a3 (i64_wf m4) (i64_wf m5) hG⟩

theorem slotEmpty_holds (H : SlotOk) : Rows.SlotEmptySaid :=
  OpenClaim.holds_of_wide 4 Tryd.f4 rfl rfl rfl rfl rfl rfl rfl ⟨rfl, rfl, rfl, rfl, rfl⟩ rfl rfl rfl rfl rfl (by kernel_rfl) Tryd.func4 (by kernel_rfl)
    (of_decide_eq_true (by kernel_rfl)) (by unfold Func.isWrapper; first | (rw [if_pos (by decide +kernel)]; kernel_rfl) | (rw [if_neg (by decide +kernel)]; exact ⟨rfl, rfl⟩))
    (fun os started H' enc _ => slotEmpty_lifted H os started H' enc)

theorem slotEmpty_card (H : SlotOk) : Rows.SlotEmptyCardSaid :=
  Claim7.holds_tied_plain_at .later [] _ true (true, Rows.slotEmptyCard.stood.harness.2) false (slotEmpty_holds H) (fun _ h => by cases h) (by kernel_rfl) (fun _ h => by cases h) slotEmpty_row_tie rfl ⟨rfl, rfl⟩ (by kernel_rfl) rfl
    (fun f fn hf hfn => by
      obtain rfl : f = 4 := Option.some.inj ((show Tryd.prog.funcNamed "bailiwick/bailiwicklaw13.SlotEmpty" = some 4 by kernel_rfl).symm.trans hf) |>.symm
      obtain rfl : fn = Tryd.f4 := (Option.some.inj (Tryd.func4.symm.trans hfn)).symm
      exact ⟨by kernel_rfl, fun j t ht => by
        rw [Tryd.params4] at ht
        have hm : t ∈ [22, 23, 24, 26, 2, 2] := by simpa using Array.mem_of_getElem? ht
        have hall : ([22, 23, 24, 26, 2, 2].all fun u => !Tryd.prog.wantsStandIn u) = true := by kernel_rfl
        exact (show Tryd.prog.wantsStandIn t = false by simpa using List.all_eq_true.1 hall t hm)⟩)
    (by kernel_rfl)

end Go.Proofs.YtpoalgkgomljmaaDoor
