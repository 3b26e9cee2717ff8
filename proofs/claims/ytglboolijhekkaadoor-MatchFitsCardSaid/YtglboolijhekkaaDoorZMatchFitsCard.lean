/- MatchFits holds: what is got is free, in as many nodes as were asked for, with as many cores and gpus of each, or whole ones; it is had just where as many nodes suit. The card of the statement MatchFits. No condition: every input, at the tables that the program's text lays. -/
import Derived.Test.YtglboolijhekkaaDoorCards
import Derived.Test.YtglboolijhekkaaDoorMg02
import Derived.Test.YtglboolijhekkaaDoorMg03
import Derived.Test.YtglboolijhekkaaDoorZMatchLFits
namespace Go.Proofs.YtglboolijhekkaaDoor
open Go.ChangeShapes Go.WideShapes Go.ChangeAt Go.RowKit

theorem matchFits_glob (W : World) (h : laidMetH Tryd.prog Rows.matchFitsRow.laid W) : Glob W := glob_of 0 (MakeChecks.laidMetH_plain _ _ _ (by kernel_rfl)) rfl h

set_option maxRecDepth 100000 in
theorem matchFits_lifted (H : MatchOk) (GO : GraphOk) (HSP : SpecOk) (os : Os) (started : os.Started) (H' : Type) (enc : TypeId × Value → H') :
    ReturnsInHanded {} Tryd.checked os 3 .any (fun w args => (Rows.matchFitsSpec.pre enc Tryd.prog Tryd.f3 Rows.matchFitsRow.domain false w args ∧ laidMetH Tryd.prog Rows.matchFitsRow.laid w) ∧ sizedMet enc Tryd.prog Tryd.f3 (OpenSpec.ofChange Rows.matchFitsSpec) false w args)
      (Rows.matchFitsSpec.post enc Tryd.prog Tryd.f3 false true false false) := by
  refine lifted_tied matchFits_glob started (by kernel_rfl) Tryd.func3 (by kernel_rfl) rfl
    (fun t ht => by
      have hp : Tryd.f3.params = #[22, 23, 25] := Tryd.params3
      rw [hp] at ht
      have hall : ([22, 23, 25].all fun u => Tryd.prog.readableRec u && decide (u < Tryd.prog.types.size)) = true := by kernel_rfl
      have := List.all_eq_true.1 hall t (by simpa using ht)
      simpa using this)
    (ChangeSpec.witness_shaped (enc := enc) (C := Tryd.checked) (os := os) (X := fun w _ => laidMetH Tryd.prog Rows.matchFitsRow.laid w) false (World.laidAll Tryd.prog os Rows.matchFitsRow.laid) #[.slice none 0 0, .slice none 0 0, .agg #[.int .i64 0, .int .i64 0, .int .i64 0, .string ⟨#[]⟩, .bool false, .int .i64 0, .int .i64 0]] 8 (World.laidAll_os _ _ _)
      (World.shaped_of_ZipB (by kernel_rfl) (by kernel_rfl)) (by kernel_rfl) (by kernel_rfl) (by kernel_rfl)
      (by rw [MakeChecks.laidMetH_plain _ _ _ (by kernel_rfl)]; exact laidMet_laidAll _ (by kernel_rfl) (by kernel_rfl))) ?_
  intro W base args ds p hval hA hG
  rw [Tryd.params3] at hA hval
  obtain ⟨v0, r'0, d0, e'0, p0, q'0, ha, rfl, rfl, h0, hA⟩ := trodAll_cons hA
  obtain ⟨v1, r'1, d1, e'1, p1, q'1, rfl, rfl, rfl, h1, hA⟩ := trodAll_cons hA
  obtain ⟨v2, r'2, d2, e'2, p2, q'2, rfl, rfl, rfl, h2, hA⟩ := trodAll_cons hA
  obtain ⟨rfl, rfl, rfl⟩ := trodAll_nil hA
  obtain rfl : args = #[v0, v1, v2] := by cases args; simp_all
  clear ha
  obtain ⟨A0, n0, c0, x0, rfl, r0, z0, l0, m0⟩ := open_RG (hval 0 22 v0 rfl rfl) h0
  obtain ⟨A1, n1, c1, x1, rfl, r1, j1, z1, l1, m1⟩ := open_RJ (hval 1 23 v1 rfl rfl) h1
  obtain ⟨s2, rfl, a2⟩ := open_S (hval 2 25 v2 rfl rfl) h2
  exact ⟨rfl, matchFits_walk H GO HSP A0 n0 c0 A1 n1 c1 x0 x1 s2 W r0 z0 l0 m0 r1 j1 z1 l1 m1 a2 hG⟩

theorem matchFits_holds (H : MatchOk) (GO : GraphOk) (HSP : SpecOk) : Rows.MatchFitsSaid :=
  OpenClaim.holds_of_wide 3 Tryd.f3 rfl rfl rfl rfl rfl rfl rfl ⟨rfl, rfl, rfl, rfl, rfl⟩ rfl rfl rfl rfl rfl (by kernel_rfl) Tryd.func3 (by kernel_rfl)
    (of_decide_eq_true (by kernel_rfl)) (by unfold Func.isWrapper; first | (rw [if_pos (by decide +kernel)]; kernel_rfl) | (rw [if_neg (by decide +kernel)]; exact ⟨rfl, rfl⟩))
    (fun os started H' enc _ => matchFits_lifted H GO HSP os started H' enc)

theorem matchFits_card (H : MatchOk) (GO : GraphOk) (HSP : SpecOk) : Rows.MatchFitsCardSaid :=
  Claim7.holds_tied_plain_at .later [] _ true (true, Rows.matchFitsCard.stood.harness.2) false (matchFits_holds H GO HSP) (fun _ h => by cases h) (by kernel_rfl) (fun _ h => by cases h) matchFits_row_tie rfl ⟨rfl, rfl⟩ (by kernel_rfl) rfl
    (fun f fn hf hfn => by
      obtain rfl : f = 3 := Option.some.inj ((show Tryd.prog.funcNamed "bailiwick/bailiwicklaw09.MatchFits" = some 3 by kernel_rfl).symm.trans hf) |>.symm
      obtain rfl : fn = Tryd.f3 := (Option.some.inj (Tryd.func3.symm.trans hfn)).symm
      exact ⟨by kernel_rfl, fun j t ht => by
        rw [Tryd.params3] at ht
        have hm : t ∈ [22, 23, 25] := by simpa using Array.mem_of_getElem? ht
        have hall : ([22, 23, 25].all fun u => !Tryd.prog.wantsStandIn u) = true := by kernel_rfl
        exact (show Tryd.prog.wantsStandIn t = false by simpa using List.all_eq_true.1 hall t hm)⟩)
    (by kernel_rfl)

end Go.Proofs.YtglboolijhekkaaDoor
