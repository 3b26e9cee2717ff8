/- SlotPlans of layer 13, as a walk over the contracts. Written by gen/gen_slot.py. -/
import Derived.Test.YtpoalgkgomljmaaGreatDoorMg10
import Derived.Test.YtpoalgkgomljmaaGreatDoorZSlotRefC
import Derived.Test.YtpoalgkgomljmaaGreatDoorZSlotLend
namespace Go.Proofs.YtpoalgkgomljmaaGreatDoor
open Go.RowKit

section
variable {g : Gr} {use : List Int} {l : Tb} {ws : List Wn} {t u : Int}
theorem planR_len : ∀ (ws : List Wn) (out : Tb), out.length ≤ 600 → (planR g use t u out ws).1.length ≤ 600
  | [], out, h => by rw [planR]; exact h
  | x :: r, out, h => by
    cases hb : firstBS g use out x.spec t u with
    | false => rw [planR_pass hb]; exact planR_len r out h
    | true =>
      by_cases h0 : addE out (heldW g use out x t u) = 0
      · rw [planR_add hb h0]; exact planR_len r _ (addT_few h0)
      · rw [planR_err hb h0]; exact h
theorem planT_len (h : l.length ≤ 600) : (planT g use l ws t u).length ≤ 600 := by
  unfold planT
  split
  · exact planR_len ws l h
  · exact h
end
set_option maxRecDepth 100000 in
set_option maxHeartbeats 8000000 in
theorem slotPlans_no (H : SlotOk) (A : Option Addr) (n c : Nat) (_g : Gr) (A2 : Option Addr) (n2 c2 : Nat) (_use : List Int) (A3 : Option Addr) (n3 c3 : Nat) (l : Tb) (A4 : Option Addr) (n4 c4 : Nat) (t u : Int) (w : World) (hl : TAsk w A3 n3 c3 l) (hs : decide (SmallS n n2 n3 l n4) = false) (hG : Glob w) : Calls Tryz.prog 4 #[.slice A n c, .slice A2 n2 c2, .slice A3 n3 c3, .slice A4 n4 c4, .int .i64 t, .int .i64 u] w fun e w' => e = .returned (.bool true) ∧ Below w.heap.size w w' := by
  have HB := Lib.hid (Below.refl w.heap.size w)
  have HG := Lib.hid hG
  have TA := Lib.hid hl
  have HSM := Lib.hid hs
  clear hG hl hs
  go_enter Tryz.func4, Tryz.ntmps4
  go_wp2_with fail
  refine (awake13_any H _ HG.out).mono ?_
  rintro e w1 ⟨rfl, hb⟩
  have HBq := Lib.hid (HB.out.trans (hb.mono HB.out.size))
  clear HB
  have HB := HBq
  clear HBq
  have HGq := Lib.hid (HG.out.next hb)
  clear HG
  have HG := HGq
  clear HGq
  have TAq := Lib.hid (TA.out.next hb)
  clear TA
  have TA := TAq
  clear TAq
  clear hb
  go_wp2_with fail
  refine (smallS_b TA.out HSM.out).mono ?_
  rintro e w2 ⟨rfl, hb⟩
  have HBq := Lib.hid (HB.out.trans (hb.mono HB.out.size))
  clear HB
  have HB := HBq
  clear HBq
  have HGq := Lib.hid (HG.out.next hb)
  clear HG
  have HG := HGq
  clear HGq
  have TAq := Lib.hid (TA.out.next hb)
  clear TA
  have TA := TAq
  clear TAq
  clear hb
  go_wp2
  go_ret
  exact ⟨rfl, HB.out⟩
set_option maxRecDepth 100000 in
set_option maxHeartbeats 8000000 in
theorem slotPlans_yes (H : SlotOk) {A : Option Addr} {n c : Nat} {g : Gr} {A2 : Option Addr} {n2 c2 : Nat} {use : List Int} {A3 : Option Addr} {n3 c3 : Nat} {l : Tb} {A4 : Option Addr} {n4 c4 : Nat} {ws : List Wn} {t u : Int} {w : World} (hg : GAsk w A n c g) (hu : LAsk w A2 n2 c2 use) (hl : TAsk w A3 n3 c3 l) (hf : FewT l) (hw : WnAsk w A4 n4 c4 ws) (ht : I64 t) (hv : I64 u) (hsm : decide (SmallS n n2 n3 l n4) = true) (hG : Glob w) : Calls Tryz.prog 4 #[.slice A n c, .slice A2 n2 c2, .slice A3 n3 c3, .slice A4 n4 c4, .int .i64 t, .int .i64 u] w fun e w' => e = .returned (.bool true) ∧ Below w.heap.size w w' := by
  have HB := Lib.hid (Below.refl w.heap.size w)
  have HG := Lib.hid hG
  have GA := Lib.hid hg
  have UA := Lib.hid hu
  have TA := Lib.hid hl
  have WA := Lib.hid hw
  have HF := Lib.hid hf
  have HT := Lib.hid ht
  have HV := Lib.hid hv
  have HSM := Lib.hid hsm
  have hsp := of_decide_eq_true hsm
  unfold SmallS at hsp
  have HN1 : Hid (n3 ≤ 1000) := Lib.hid (by omega)
  have HN60 : Hid (n ≤ 60) := Lib.hid (by omega)
  have HN61 : Hid (n3 + n4 ≤ 60) := Lib.hid (by omega)
  have HF1 : Hid (∀ k, k < n3 → (l.getD k hd0).things.length ≤ 1000) := Lib.hid (fun k hk => Nat.le_trans (hf.at (by rw [hl.reads.len]; exact hk)) (by omega))
  obtain ⟨r1, e1⟩ : ∃ r, planT g use l ws t u = r := ⟨_, rfl⟩
  obtain ⟨er, e2⟩ : ∃ r, planE g use l ws t u = r := ⟨_, rfl⟩
  have HPL : Hid (r1.length ≤ maxLen) := Lib.hid (by rw [← e1]; exact Nat.le_trans (planT_len (by rw [hl.reads.len]; omega)) (by decide))
  have HRP : Hid (∀ W, GAsk W A n c g → LAsk W A2 n2 c2 use → TAsk W A3 n3 c3 l → WnAsk W A4 n4 c4 ws → Calls Tryz.prog 16 #[.slice A n c, .slice A2 n2 c2, .slice A3 n3 c3, .slice A4 n4 c4, .int .i64 t, .int .i64 u] W (TEPost r1 er W)) := Lib.hid (fun W h1 h2 h3 h4 => by
    have := refPlanS_any (t := t) h1 h2 h3 h4 ht hv
    rw [e1, e2] at this; exact this)
  have E1 := Lib.hid e1
  have E2 := Lib.hid e2
  have dx : (er == er) = true := by simp
  clear hG hg hu hl hf hw ht hv hsm hsp e1 e2
  go_enter Tryz.func4, Tryz.ntmps4
  go_wp2_with fail
  refine (awake13_any H _ HG.out).mono ?_
  rintro e w1 ⟨rfl, hb⟩
  have HBq := Lib.hid (HB.out.trans (hb.mono HB.out.size))
  clear HB
  have HB := HBq
  clear HBq
  have HGq := Lib.hid (HG.out.next hb)
  clear HG
  have HG := HGq
  clear HGq
  have GAq := Lib.hid (GA.out.next hb)
  clear GA
  have GA := GAq
  clear GAq
  have UAq := Lib.hid (UA.out.next hb)
  clear UA
  have UA := UAq
  clear UAq
  have TAq := Lib.hid (TA.out.next hb)
  clear TA
  have TA := TAq
  clear TAq
  have WAq := Lib.hid (WA.out.next hb)
  clear WA
  have WA := WAq
  clear WAq
  clear hb
  go_wp2_with fail
  refine (smallS_b TA.out HSM.out).mono ?_
  rintro e w2 ⟨rfl, hb⟩
  have HBq := Lib.hid (HB.out.trans (hb.mono HB.out.size))
  clear HB
  have HB := HBq
  clear HBq
  have HGq := Lib.hid (HG.out.next hb)
  clear HG
  have HG := HGq
  clear HGq
  have GAq := Lib.hid (GA.out.next hb)
  clear GA
  have GA := GAq
  clear GAq
  have UAq := Lib.hid (UA.out.next hb)
  clear UA
  have UA := UAq
  clear UAq
  have TAq := Lib.hid (TA.out.next hb)
  clear TA
  have TA := TAq
  clear TAq
  have WAq := Lib.hid (WA.out.next hb)
  clear WA
  have WA := WAq
  clear WAq
  clear hb
  go_wp2_with fail
  refine (refLend_any TA.out HN1.out HF1.out).mono ?_
  rintro e w3 ⟨⟨A31, c31, rfl, ht3⟩, hb⟩
  have HBq := Lib.hid (HB.out.trans (hb.mono HB.out.size))
  clear HB
  have HB := HBq
  clear HBq
  have HGq := Lib.hid (HG.out.next hb)
  clear HG
  have HG := HGq
  clear HGq
  have GAq := Lib.hid (GA.out.next hb)
  clear GA
  have GA := GAq
  clear GAq
  have UAq := Lib.hid (UA.out.next hb)
  clear UA
  have UA := UAq
  clear UAq
  have TAq := Lib.hid (TA.out.next hb)
  clear TA
  have TA := TAq
  clear TAq
  have WAq := Lib.hid (WA.out.next hb)
  clear WA
  have WA := WAq
  clear WAq
  clear hb
  have TM := Lib.hid ht3
  clear ht3
  go_wp2_with fail
  refine (s13_plan H GA.out UA.out TM.out HF.out WA.out HN60.out HN61.out HT.out HV.out HG.out E1.out E2.out).mono ?_
  rintro e w4 ⟨⟨A41, c41, rfl, hr4, hn4, hc4⟩, hb⟩
  have HBq := Lib.hid (HB.out.trans (hb.mono HB.out.size))
  clear HB
  have HB := HBq
  clear HBq
  have HGq := Lib.hid (HG.out.next hb)
  clear HG
  have HG := HGq
  clear HGq
  have GAq := Lib.hid (GA.out.next hb)
  clear GA
  have GA := GAq
  clear GAq
  have UAq := Lib.hid (UA.out.next hb)
  clear UA
  have UA := UAq
  clear UAq
  have TAq := Lib.hid (TA.out.next hb)
  clear TA
  have TA := TAq
  clear TAq
  have WAq := Lib.hid (WA.out.next hb)
  clear WA
  have WA := WAq
  clear WAq
  have TMq := Lib.hid (TM.out.next hb)
  clear TM
  have TM := TMq
  clear TMq
  clear hb
  have TP4 := Lib.hid (ans_ask hr4 hn4 hc4 HPL.out)
  clear hr4 hn4 hc4
  go_wp2_with fail
  refine (HRP.out _ GA.out UA.out TA.out WA.out).mono ?_
  rintro e w5 ⟨⟨A51, c51, rfl, hr5, hn5, hc5⟩, hb⟩
  have HBq := Lib.hid (HB.out.trans (hb.mono HB.out.size))
  clear HB
  have HB := HBq
  clear HBq
  have HGq := Lib.hid (HG.out.next hb)
  clear HG
  have HG := HGq
  clear HGq
  have GAq := Lib.hid (GA.out.next hb)
  clear GA
  have GA := GAq
  clear GAq
  have UAq := Lib.hid (UA.out.next hb)
  clear UA
  have UA := UAq
  clear UAq
  have TAq := Lib.hid (TA.out.next hb)
  clear TA
  have TA := TAq
  clear TAq
  have WAq := Lib.hid (WA.out.next hb)
  clear WA
  have WA := WAq
  clear WAq
  have TMq := Lib.hid (TM.out.next hb)
  clear TM
  have TM := TMq
  clear TMq
  have TP4q := Lib.hid (TP4.out.next hb)
  clear TP4
  have TP4 := TP4q
  clear TP4q
  clear hb
  have TP5 := Lib.hid (ans_ask hr5 hn5 hc5 HPL.out)
  clear hr5 hn5 hc5
  go_wp2_with fail
  refine (sameT_b TP4.out TP5.out (sameT_self _)).mono ?_
  rintro e w6 ⟨rfl, hb⟩
  have HBq := Lib.hid (HB.out.trans (hb.mono HB.out.size))
  clear HB
  have HB := HBq
  clear HBq
  have HGq := Lib.hid (HG.out.next hb)
  clear HG
  have HG := HGq
  clear HGq
  have GAq := Lib.hid (GA.out.next hb)
  clear GA
  have GA := GAq
  clear GAq
  have UAq := Lib.hid (UA.out.next hb)
  clear UA
  have UA := UAq
  clear UAq
  have TAq := Lib.hid (TA.out.next hb)
  clear TA
  have TA := TAq
  clear TAq
  have WAq := Lib.hid (WA.out.next hb)
  clear WA
  have WA := WAq
  clear WAq
  have TMq := Lib.hid (TM.out.next hb)
  clear TM
  have TM := TMq
  clear TMq
  have TP4q := Lib.hid (TP4.out.next hb)
  clear TP4
  have TP4 := TP4q
  clear TP4q
  have TP5q := Lib.hid (TP5.out.next hb)
  clear TP5
  have TP5 := TP5q
  clear TP5q
  clear hb
  go_wp2_with fail
  refine (sameT_b TM.out TA.out (sameT_self _)).mono ?_
  rintro e w7 ⟨rfl, hb⟩
  have HBq := Lib.hid (HB.out.trans (hb.mono HB.out.size))
  clear HB
  have HB := HBq
  clear HBq
  have HGq := Lib.hid (HG.out.next hb)
  clear HG
  have HG := HGq
  clear HGq
  have GAq := Lib.hid (GA.out.next hb)
  clear GA
  have GA := GAq
  clear GAq
  have UAq := Lib.hid (UA.out.next hb)
  clear UA
  have UA := UAq
  clear UAq
  have TAq := Lib.hid (TA.out.next hb)
  clear TA
  have TA := TAq
  clear TAq
  have WAq := Lib.hid (WA.out.next hb)
  clear WA
  have WA := WAq
  clear WAq
  have TMq := Lib.hid (TM.out.next hb)
  clear TM
  have TM := TMq
  clear TMq
  have TP4q := Lib.hid (TP4.out.next hb)
  clear TP4
  have TP4 := TP4q
  clear TP4q
  have TP5q := Lib.hid (TP5.out.next hb)
  clear TP5
  have TP5 := TP5q
  clear TP5q
  clear hb
  go_wp2
  go_ret
  exact ⟨rfl, HB.out⟩
theorem slotPlans_walk (H : SlotOk) (A : Option Addr) (n c : Nat) (g : Gr) (A2 : Option Addr) (n2 c2 : Nat) (use : List Int) (A3 : Option Addr) (n3 c3 : Nat) (l : Tb) (A4 : Option Addr) (n4 c4 : Nat) (ws : List Wn) (t u : Int) (w : World) (hr : RG w w.heap.size A n g) (hnil : A = none → c = 0) (hnc : n ≤ c) (_hn : n ≤ maxLen) (hr2 : RI w w.heap.size A2 n2 use) (hj2 : ∀ x ∈ use, I64 x) (hnil2 : A2 = none → c2 = 0) (hnc2 : n2 ≤ c2) (_hn2 : n2 ≤ maxLen) (hl : TAsk w A3 n3 c3 l) (hw : WnAsk w A4 n4 c4 ws) (ht : I64 t) (hv : I64 u) (hG : Glob w) : Calls Tryz.prog 4 #[.slice A n c, .slice A2 n2 c2, .slice A3 n3 c3, .slice A4 n4 c4, .int .i64 t, .int .i64 u] w fun e w' => e = .returned (.bool true) ∧ Below w.heap.size w w' := by
  cases hsm : decide (SmallS n n2 n3 l n4) with
  | false => exact slotPlans_no H A n c g A2 n2 c2 use A3 n3 c3 l A4 n4 c4 t u w hl hsm hG
  | true =>
    have h := of_decide_eq_true hsm
    unfold SmallS at h
    exact slotPlans_yes H ⟨hr, hnil, hnc, by omega⟩ ⟨hr2, hnil2, hnc2, by omega, hj2⟩ hl (short_fewS h.2.2.2.1) hw ht hv hsm hG

end Go.Proofs.YtpoalgkgomljmaaGreatDoor
