/- PickFirst holds: whoever begins with Fcfs begins, ahead of all others, with Easy, and with Conser, whatever its depth. The card of the statement PickFirst. No condition: every input, at the tables that the program's text lays. -/
import Derived.Test.YtchogijdkagiiaaGreatDoorCards
import Derived.Test.YtchogijdkagiiaaGreatDoorMg03
import Derived.Test.YtchogijdkagiiaaGreatDoorZPickLFirst
namespace Go.Proofs.YtchogijdkagiiaaGreatDoor
open Go.ChangeShapes Go.WideShapes Go.ChangeAt Go.RowKit

theorem pickFirst_glob (W : World) (h : laidMetH Tryz.prog Rows.pickFirstRow.laid W) : Glob W := glob_of 0 (MakeChecks.laidMetH_plain _ _ _ (by kernel_rfl)) rfl h

set_option maxRecDepth 100000 in
theorem pickFirst_lifted (H : PickOk) (os : Os) (started : os.Started) (H' : Type) (enc : TypeId × Value → H') :
    ReturnsInHanded {} Tryz.checked os 8 .any (fun w args => (Rows.pickFirstSpec.pre enc Tryz.prog Tryz.f8 Rows.pickFirstRow.domain false w args ∧ laidMetH Tryz.prog Rows.pickFirstRow.laid w) ∧ sizedMet enc Tryz.prog Tryz.f8 (OpenSpec.ofChange Rows.pickFirstSpec) false w args)
      (Rows.pickFirstSpec.post enc Tryz.prog Tryz.f8 false true false false) := by
  refine lifted_tied pickFirst_glob started (by kernel_rfl) Tryz.func8 (by kernel_rfl) rfl
    (fun t ht => by
      have hp : Tryz.f8.params = #[22, 23, 24, 25, 2, 2, 5] := Tryz.params8
      rw [hp] at ht
      have hall : ([22, 23, 24, 25, 2, 2, 5].all fun u => Tryz.prog.readableRec u && decide (u < Tryz.prog.types.size)) = true := by kernel_rfl
      have := List.all_eq_true.1 hall t (by simpa using ht)
      simpa using this)
    (ChangeSpec.witness_shaped (enc := enc) (C := Tryz.checked) (os := os) (X := fun w _ => laidMetH Tryz.prog Rows.pickFirstRow.laid w) false (World.laidAll Tryz.prog os Rows.pickFirstRow.laid) #[.slice none 0 0, .slice none 0 0, .slice none 0 0, .slice none 0 0, .int .i64 0, .int .i64 0, .int .u8 0] 8 (World.laidAll_os _ _ _)
      (World.shaped_of_ZipB (by kernel_rfl) (by kernel_rfl)) (by kernel_rfl) (by kernel_rfl) (by kernel_rfl)
      (by rw [MakeChecks.laidMetH_plain _ _ _ (by kernel_rfl)]; exact laidMet_laidAll _ (by kernel_rfl) (by kernel_rfl))) ?_
  intro W base args ds p hval hA hG
  rw [Tryz.params8] at hA hval
  obtain ⟨v0, r'0, d0, e'0, p0, q'0, ha, rfl, rfl, h0, hA⟩ := trodAll_cons hA
  obtain ⟨v1, r'1, d1, e'1, p1, q'1, rfl, rfl, rfl, h1, hA⟩ := trodAll_cons hA
  obtain ⟨v2, r'2, d2, e'2, p2, q'2, rfl, rfl, rfl, h2, hA⟩ := trodAll_cons hA
  obtain ⟨v3, r'3, d3, e'3, p3, q'3, rfl, rfl, rfl, h3, hA⟩ := trodAll_cons hA
  obtain ⟨v4, r'4, d4, e'4, p4, q'4, rfl, rfl, rfl, h4, hA⟩ := trodAll_cons hA
  obtain ⟨v5, r'5, d5, e'5, p5, q'5, rfl, rfl, rfl, h5, hA⟩ := trodAll_cons hA
  obtain ⟨v6, r'6, d6, e'6, p6, q'6, rfl, rfl, rfl, h6, hA⟩ := trodAll_cons hA
  obtain ⟨rfl, rfl, rfl⟩ := trodAll_nil hA
  obtain rfl : args = #[v0, v1, v2, v3, v4, v5, v6] := by cases args; simp_all
  clear ha
  obtain ⟨A0, n0, c0, x0, rfl, r0, z0, l0, m0⟩ := open_RG (hval 0 22 v0 rfl rfl) h0
  obtain ⟨A1, n1, c1, x1, rfl, r1, j1, z1, l1, m1⟩ := open_RJ (hval 1 23 v1 rfl rfl) h1
  obtain ⟨A2, n2, c2, x2, rfl, b2⟩ := open_RT (hval 2 24 v2 rfl rfl) h2
  obtain ⟨A3, n3, c3, x3, rfl, b3⟩ := open_WN (hval 3 25 v3 rfl rfl) h3
  obtain ⟨i4, rfl, rfl, rfl, m4⟩ := open_int Tryz.underlying2 (hval 4 2 v4 rfl rfl) h4
  obtain ⟨i5, rfl, rfl, rfl, m5⟩ := open_int Tryz.underlying2 (hval 5 2 v5 rfl rfl) h5
  obtain ⟨i6, rfl, rfl, rfl, m6⟩ := open_int Tryz.underlying5 (hval 6 5 v6 rfl rfl) h6
  exact ⟨rfl, pickFirst_walk H A0 n0 c0 x0 A1 n1 c1 x1 A2 n2 c2 x2 A3 n3 c3 x3 i4 i5 i6 W r0 z0 l0 m0 r1 j1 z1 l1 m1 b2 b3 (i64_wf m4) (i64_wf m5) (u8_lt (u8_wf m6)) hG⟩

theorem pickFirst_holds (H : PickOk) : Rows.PickFirstSaid :=
  OpenClaim.holds_of_wide 8 Tryz.f8 rfl rfl rfl rfl rfl rfl rfl ⟨rfl, rfl, rfl, rfl, rfl⟩ rfl rfl rfl rfl rfl (by kernel_rfl) Tryz.func8 (by kernel_rfl)
    (of_decide_eq_true (by kernel_rfl)) (by unfold Func.isWrapper; first | (rw [if_pos (by decide +kernel)]; kernel_rfl) | (rw [if_neg (by decide +kernel)]; exact ⟨rfl, rfl⟩))
    (fun os started H' enc _ => pickFirst_lifted H os started H' enc)

theorem pickFirst_card (H : PickOk) : Rows.PickFirstCardSaid :=
  Claim7.holds_tied_plain_at .later [] _ true (true, Rows.pickFirstCard.stood.harness.2) false (pickFirst_holds H) (fun _ h => by cases h) (by kernel_rfl) (fun _ h => by cases h) pickFirst_row_tie rfl ⟨rfl, rfl⟩ (by kernel_rfl) rfl
    (fun f fn hf hfn => by
      obtain rfl : f = 8 := Option.some.inj ((show Tryz.prog.funcNamed "bailiwick/bailiwicklaw14.PickFirst" = some 8 by kernel_rfl).symm.trans hf) |>.symm
      obtain rfl : fn = Tryz.f8 := (Option.some.inj (Tryz.func8.symm.trans hfn)).symm
      exact ⟨by kernel_rfl, fun j t ht => by
        rw [Tryz.params8] at ht
        have hm : t ∈ [22, 23, 24, 25, 2, 2, 5] := by simpa using Array.mem_of_getElem? ht
        have hall : ([22, 23, 24, 25, 2, 2, 5].all fun u => !Tryz.prog.wantsStandIn u) = true := by kernel_rfl
        exact (show Tryz.prog.wantsStandIn t = false by simpa using List.all_eq_true.1 hall t hm)⟩)
    (by kernel_rfl)

end Go.Proofs.YtchogijdkagiiaaGreatDoor
