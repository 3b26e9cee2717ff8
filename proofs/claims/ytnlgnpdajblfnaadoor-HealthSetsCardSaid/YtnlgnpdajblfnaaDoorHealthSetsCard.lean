/- HealthSets holds: what is set on a thing changes nothing of those that aren't under it; set Down nothing under it works; set as it was, all is as it was. The card of the statement HealthSets. No condition: every input, at the tables that the program's text lays. -/
import Derived.Test.YtnlgnpdajblfnaaDoorGraphFrame
import Derived.Test.YtnlgnpdajblfnaaDoorFrameTied
import Derived.Test.YtnlgnpdajblfnaaDoorCards
import Derived.Test.YtnlgnpdajblfnaaDoorHealthLSets
namespace Go.Proofs.YtnlgnpdajblfnaaDoor
open Go.ChangeShapes Go.WideShapes Go.ChangeAt Go.RowKit

theorem healthSets_glob (W : World) (h : laidMetH Tryd.prog Rows.healthSetsRow.laid W) : Glob W := glob_of 0 (MakeChecks.laidMetH_plain _ _ _ (by kernel_rfl)) rfl h

set_option maxRecDepth 100000 in
theorem healthSets_lifted (H : HealthOk) (HGr : GraphOk) (os : Os) (started : os.Started) (H' : Type) (enc : TypeId × Value → H') :
    ReturnsInHanded {} Tryd.checked os 4 .any (fun w args => (Rows.healthSetsSpec.pre enc Tryd.prog Tryd.f4 Rows.healthSetsRow.domain false w args ∧ laidMetH Tryd.prog Rows.healthSetsRow.laid w) ∧ sizedMet enc Tryd.prog Tryd.f4 (OpenSpec.ofChange Rows.healthSetsSpec) false w args)
      (Rows.healthSetsSpec.post enc Tryd.prog Tryd.f4 false true false false) := by
  refine lifted_tied healthSets_glob started (by kernel_rfl) Tryd.func4 (by kernel_rfl) rfl
    (fun t ht => by
      have hp : Tryd.f4.params = #[22, 23, 3, 5] := Tryd.params4
      rw [hp] at ht
      have hall : ([22, 23, 3, 5].all fun u => Tryd.prog.readableRec u && decide (u < Tryd.prog.types.size)) = true := by kernel_rfl
      have := List.all_eq_true.1 hall t (by simpa using ht)
      simpa using this)
    (ChangeSpec.witness_shaped (enc := enc) (C := Tryd.checked) (os := os) (X := fun w _ => laidMetH Tryd.prog Rows.healthSetsRow.laid w) false (World.laidAll Tryd.prog os Rows.healthSetsRow.laid) #[.slice none 0 0, .slice none 0 0, .int .i64 0, .int .u8 0] 8 (World.laidAll_os _ _ _)
      (World.shaped_of_ZipB (by kernel_rfl) (by kernel_rfl)) (by kernel_rfl) (by kernel_rfl) (by kernel_rfl)
      (by rw [MakeChecks.laidMetH_plain _ _ _ (by kernel_rfl)]; exact laidMet_laidAll _ (by kernel_rfl) (by kernel_rfl))) ?_
  intro W base args ds p hval hA hG
  rw [Tryd.params4] at hA hval
  obtain ⟨v0, r'0, d0, e'0, p0, q'0, ha, rfl, rfl, h0, hA⟩ := trodAll_cons hA
  obtain ⟨v1, r'1, d1, e'1, p1, q'1, rfl, rfl, rfl, h1, hA⟩ := trodAll_cons hA
  obtain ⟨v2, r'2, d2, e'2, p2, q'2, rfl, rfl, rfl, h2, hA⟩ := trodAll_cons hA
  obtain ⟨v3, r'3, d3, e'3, p3, q'3, rfl, rfl, rfl, h3, hA⟩ := trodAll_cons hA
  obtain ⟨rfl, rfl, rfl⟩ := trodAll_nil hA
  obtain rfl : args = #[v0, v1, v2, v3] := by cases args; simp_all
  clear ha
  obtain ⟨A0, n0, c0, x0, rfl, r0, z0, l0, m0⟩ := open_RG (hval 0 22 v0 rfl rfl) h0
  obtain ⟨A1, n1, c1, x1, rfl, r1, j1, z1, l1, m1⟩ := open_RJ (hval 1 23 v1 rfl rfl) h1
  obtain ⟨i2, rfl, rfl, rfl, m2⟩ := open_int Tryd.underlying3 (hval 2 3 v2 rfl rfl) h2
  obtain ⟨i3, rfl, rfl, rfl, m3⟩ := open_int Tryd.underlying5 (hval 3 5 v3 rfl rfl) h3
  exact ⟨rfl, healthSets_walk H HGr A0 n0 c0 A1 n1 c1 x0 x1 i2 i3 W r0 z0 l0 m0 r1 j1 z1 l1 m1 (u8_wf m3) hG⟩

theorem healthSets_holds (H : HealthOk) (HGr : GraphOk) : Rows.HealthSetsSaid :=
  OpenClaim.holds_of_wide 4 Tryd.f4 rfl rfl rfl rfl rfl rfl rfl ⟨rfl, rfl, rfl, rfl, rfl⟩ rfl rfl rfl rfl rfl (by kernel_rfl) Tryd.func4 (by kernel_rfl)
    (of_decide_eq_true (by kernel_rfl)) (by unfold Func.isWrapper; first | (rw [if_pos (by decide +kernel)]; kernel_rfl) | (rw [if_neg (by decide +kernel)]; exact ⟨rfl, rfl⟩))
    (fun os started H' enc _ => healthSets_lifted H HGr os started H' enc)

theorem healthSets_card (H : HealthOk) (HGr : GraphOk) : Rows.HealthSetsCardSaid :=
  Claim7.holds_tied_plain_at .later [] _ true (true, Rows.healthSetsCard.stood.harness.2) false (healthSets_holds H HGr) (fun _ h => by cases h) (by kernel_rfl) (fun _ h => by cases h) healthSets_row_tie rfl ⟨rfl, rfl⟩ (by kernel_rfl) rfl
    (fun f fn hf hfn => by
      obtain rfl : f = 4 := Option.some.inj ((show Tryd.prog.funcNamed "bailiwick/bailiwicklaw06.HealthSets" = some 4 by kernel_rfl).symm.trans hf) |>.symm
      obtain rfl : fn = Tryd.f4 := (Option.some.inj (Tryd.func4.symm.trans hfn)).symm
      exact ⟨by kernel_rfl, fun j t ht => by
        rw [Tryd.params4] at ht
        have hm : t ∈ [22, 23, 3, 5] := by simpa using Array.mem_of_getElem? ht
        have hall : ([22, 23, 3, 5].all fun u => !Tryd.prog.wantsStandIn u) = true := by kernel_rfl
        exact (show Tryd.prog.wantsStandIn t = false by simpa using List.all_eq_true.1 hall t hm)⟩)
    (by kernel_rfl)

end Go.Proofs.YtnlgnpdajblfnaaDoor
