/- SlotEmpty of layer 13, as a walk over the contracts. Written by gen/gen_slot.py. -/
import Derived.Test.YtpoalgkgomljmaaDoorMg07
namespace Go.Proofs.YtpoalgkgomljmaaDoor
open Go.RowKit

theorem few_nilS : FewT [] := ⟨by decide, fun h hh => by cases hh⟩
set_option maxRecDepth 100000 in
set_option maxHeartbeats 8000000 in
theorem slotEmpty_no (H : SlotOk) (A : Option Addr) (n c : Nat) (_g : Gr) (A2 : Option Addr) (n2 c2 : Nat) (_use : List Int) (A3 : Option Addr) (n3 c3 : Nat) (l : Tb) (s : Sp) (t u : Int) (w : World) (hl : TAsk w A3 n3 c3 l) (hs : decide (SmallS n n2 n3 l 0) = false) (hG : Glob w) : Calls Tryd.prog 4 #[.slice A n c, .slice A2 n2 c2, .slice A3 n3 c3, .agg #[.int .i64 s.nodes, .int .i64 s.cores, .int .i64 s.gpus, .string s.tag, .bool s.whole, .int .i64 s.long, .int .i64 s.prio], .int .i64 t, .int .i64 u] w fun e w' => e = .returned (.bool true) ∧ Below w.heap.size w w' := by
  have hba : Below w.heap.size w (w.alloc (.cells #[.int .i64 s.nodes, .int .i64 s.cores, .int .i64 s.gpus, .string s.tag, .bool s.whole, .int .i64 s.long, .int .i64 s.prio] 26)) := (Below.refl _ _).alloc (Nat.le_refl _) _
  have HB := Lib.hid hba
  have HG := Lib.hid (hG.next hba)
  have TA := Lib.hid (hl.next hba)
  have HSM := Lib.hid hs
  clear hba hG hl hs
  go_enter Tryd.func4, Tryd.ntmps4
  go_wp2_with fail
  refine (awake13_any H _ HG.out).mono ?_
  rintro e w1 ⟨rfl, hb⟩
  have HBq := Lib.hid (HB.out.trans (hb.mono HB.out.size))
  clear HB
  have HB := HBq
  clear HBq
  have HGq := Lib.hid (HG.out.next hb)
  clear HG
  have HG := HGq
  clear HGq
  have TAq := Lib.hid (TA.out.next hb)
  clear TA
  have TA := TAq
  clear TAq
  clear hb
  go_wp2_with fail
  refine (smallS_b TA.out HSM.out).mono ?_
  rintro e w2 ⟨rfl, hb⟩
  have HBq := Lib.hid (HB.out.trans (hb.mono HB.out.size))
  clear HB
  have HB := HBq
  clear HBq
  have HGq := Lib.hid (HG.out.next hb)
  clear HG
  have HG := HGq
  clear HGq
  have TAq := Lib.hid (TA.out.next hb)
  clear TA
  have TA := TAq
  clear TAq
  clear hb
  go_wp2
  go_ret
  exact ⟨rfl, HB.out⟩
set_option maxRecDepth 100000 in
set_option maxHeartbeats 8000000 in
theorem slotEmpty_yes (H : SlotOk) {A : Option Addr} {n c : Nat} {g : Gr} {A2 : Option Addr} {n2 c2 : Nat} {use : List Int} {A3 : Option Addr} {n3 c3 : Nat} {l : Tb} {s : Sp} {t u : Int} {w : World} (hg : GAsk w A n c g) (hu : LAsk w A2 n2 c2 use) (hl : TAsk w A3 n3 c3 l) (hf : FewT l) (hs : SAsk s) (ht : I64 t) (hv : I64 u) (hsm : decide (SmallS n n2 n3 l 0) = true) (hG : Glob w) : Calls Tryd.prog 4 #[.slice A n c, .slice A2 n2 c2, .slice A3 n3 c3, .agg #[.int .i64 s.nodes, .int .i64 s.cores, .int .i64 s.gpus, .string s.tag, .bool s.whole, .int .i64 s.long, .int .i64 s.prio], .int .i64 t, .int .i64 u] w fun e w' => e = .returned (.bool true) ∧ Below w.heap.size w w' := by
  have hba : Below w.heap.size w (w.alloc (.cells #[.int .i64 s.nodes, .int .i64 s.cores, .int .i64 s.gpus, .string s.tag, .bool s.whole, .int .i64 s.long, .int .i64 s.prio] 26)) := (Below.refl _ _).alloc (Nat.le_refl _) _
  have HB := Lib.hid hba
  have HG := Lib.hid (hG.next hba)
  have GA := Lib.hid (hg.next hba)
  have UA := Lib.hid (hu.next hba)
  have TA := Lib.hid (hl.next hba)
  have BS : Hid (BoxS (w.alloc (.cells #[.int .i64 s.nodes, .int .i64 s.cores, .int .i64 s.gpus, .string s.tag, .bool s.whole, .int .i64 s.long, .int .i64 s.prio] 26)) w.heap.size s) := Lib.hid (box_new w s)
  have HF := Lib.hid hf
  have HS := Lib.hid hs
  have HT := Lib.hid ht
  have HV := Lib.hid hv
  have HSM := Lib.hid hsm
  obtain ⟨x1, k1⟩ : ∃ r, firstAtS g use [] s t u = r := ⟨_, rfl⟩
  obtain ⟨r1, k2⟩ : ∃ r, firstLS g use [] s t u = r := ⟨_, rfl⟩
  obtain ⟨b1, k3⟩ : ∃ b, firstBS g use [] s t u = b := ⟨_, rfl⟩
  obtain ⟨x2, k4⟩ : ∃ r, firstAtS g use l s t u = r := ⟨_, rfl⟩
  obtain ⟨r2, k5⟩ : ∃ r, firstLS g use l s t u = r := ⟨_, rfl⟩
  obtain ⟨b2, k6⟩ : ∃ b, firstBS g use l s t u = b := ⟨_, rfl⟩
  have E1 := Lib.hid (show firstAtS g use [] s t u = x1 ∧ firstLS g use [] s t u = r1 ∧ firstBS g use [] s t u = b1 from ⟨k1, k2, k3⟩)
  have E2 := Lib.hid (show firstAtS g use l s t u = x2 ∧ firstLS g use l s t u = r2 ∧ firstBS g use l s t u = b2 from ⟨k4, k5, k6⟩)
  have F1 : b1 = true → x1 = t := fun h => by
    rw [← k1]
    cases hf1 : firstS g use [] s t u with
    | none => rw [← k3, (first_none hf1).2.2] at h; cases h
    | some z =>
      rw [(first_some hf1).1]
      rw [firstS_nil] at hf1
      split at hf1
      · exact (Option.some.inj hf1).symm
      · cases hf1
  have F2 : b2 = true → t ≤ x2 ∧ (0 ≤ t → b1 = true) := fun h => by
    cases hf2 : firstS g use l s t u with
    | none => rw [← k6, (first_none hf2).2.2] at h; cases h
    | some z =>
      have h2 := firstS_from hf2
      rw [← k4, (first_some hf2).1]
      refine ⟨h2, fun h0 => ?_⟩
      have h3 := fits_empty (firstS_some.1 hf2).1.2 h0 h2
      rw [← k3]
      unfold firstBS
      rw [firstS_nil, if_pos h3]; rfl
  clear hba hG hg hu hl hf hs ht hv hsm k1 k2 k3 k4 k5 k6
  go_enter Tryd.func4, Tryd.ntmps4
  go_wp2_with fail
  refine (awake13_any H _ HG.out).mono ?_
  rintro e w1 ⟨rfl, hb⟩
  have HBq := Lib.hid (HB.out.trans (hb.mono HB.out.size))
  clear HB
  have HB := HBq
  clear HBq
  have HGq := Lib.hid (HG.out.next hb)
  clear HG
  have HG := HGq
  clear HGq
  have GAq := Lib.hid (GA.out.next hb)
  clear GA
  have GA := GAq
  clear GAq
  have UAq := Lib.hid (UA.out.next hb)
  clear UA
  have UA := UAq
  clear UAq
  have TAq := Lib.hid (TA.out.next hb)
  clear TA
  have TA := TAq
  clear TAq
  have BSq := Lib.hid (BS.out.next hb)
  clear BS
  have BS := BSq
  clear BSq
  clear hb
  go_wp2_with fail
  refine (smallS_b TA.out HSM.out).mono ?_
  rintro e w2 ⟨rfl, hb⟩
  have HBq := Lib.hid (HB.out.trans (hb.mono HB.out.size))
  clear HB
  have HB := HBq
  clear HBq
  have HGq := Lib.hid (HG.out.next hb)
  clear HG
  have HG := HGq
  clear HGq
  have GAq := Lib.hid (GA.out.next hb)
  clear GA
  have GA := GAq
  clear GAq
  have UAq := Lib.hid (UA.out.next hb)
  clear UA
  have UA := UAq
  clear UAq
  have TAq := Lib.hid (TA.out.next hb)
  clear TA
  have TA := TAq
  clear TAq
  have BSq := Lib.hid (BS.out.next hb)
  clear BS
  have BS := BSq
  clear BSq
  clear hb
  have q0 := BS.out.c0
  have q1 := BS.out.c1
  have q2 := BS.out.c2
  have q3 := BS.out.c3
  have q4 := BS.out.c4
  have q5 := BS.out.c5
  have q6 := BS.out.c6
  go_wp2_with fail
  refine (s13_first H GA.out UA.out (nil_ask _) few_nilS HS.out HT.out HV.out HG.out E1.out.1 E1.out.2.1 E1.out.2.2).mono ?_
  rintro e w3 ⟨⟨A31, c31, rfl, hr3, hn3, hc3⟩, hb⟩
  have HBq := Lib.hid (HB.out.trans (hb.mono HB.out.size))
  clear HB
  have HB := HBq
  clear HBq
  have HGq := Lib.hid (HG.out.next hb)
  clear HG
  have HG := HGq
  clear HGq
  have GAq := Lib.hid (GA.out.next hb)
  clear GA
  have GA := GAq
  clear GAq
  have UAq := Lib.hid (UA.out.next hb)
  clear UA
  have UA := UAq
  clear UAq
  have TAq := Lib.hid (TA.out.next hb)
  clear TA
  have TA := TAq
  clear TAq
  have BSq := Lib.hid (BS.out.next hb)
  clear BS
  have BS := BSq
  clear BSq
  clear hb
  clear hr3 hn3 hc3
  clear q0 q1 q2 q3 q4 q5 q6
  have q0 := BS.out.c0
  have q1 := BS.out.c1
  have q2 := BS.out.c2
  have q3 := BS.out.c3
  have q4 := BS.out.c4
  have q5 := BS.out.c5
  have q6 := BS.out.c6
  go_wp2_with fail
  refine (s13_first H GA.out UA.out TA.out HF.out HS.out HT.out HV.out HG.out E2.out.1 E2.out.2.1 E2.out.2.2).mono ?_
  rintro e w4 ⟨⟨A41, c41, rfl, hr4, hn4, hc4⟩, hb⟩
  have HBq := Lib.hid (HB.out.trans (hb.mono HB.out.size))
  clear HB
  have HB := HBq
  clear HBq
  have HGq := Lib.hid (HG.out.next hb)
  clear HG
  have HG := HGq
  clear HGq
  have GAq := Lib.hid (GA.out.next hb)
  clear GA
  have GA := GAq
  clear GAq
  have UAq := Lib.hid (UA.out.next hb)
  clear UA
  have UA := UAq
  clear UAq
  have TAq := Lib.hid (TA.out.next hb)
  clear TA
  have TA := TAq
  clear TAq
  have BSq := Lib.hid (BS.out.next hb)
  clear BS
  have BS := BSq
  clear BSq
  clear hb
  clear hr4 hn4 hc4
  clear q0 q1 q2 q3 q4 q5 q6
  cases b1 with
  | true =>
    have d1 : (x1 != t) = false := by rw [F1 rfl]; simp
    cases b2 with
    | true =>
      have h5 := (F2 rfl).1
      have d2 : decide (t ≤ x2) = true := decide_eq_true h5
      clear F1 F2 h5
      go_wp2
      go_ret
      exact ⟨rfl, HB.out⟩
    | false =>
      clear F1 F2
      go_wp2
      go_ret
      exact ⟨rfl, HB.out⟩
  | false =>
    cases b2 with
    | true =>
      have h5 := F2 rfl
      have h6 : ¬ 0 ≤ t := fun h => by have := h5.2 h; cases this
      have d3 : decide (0 ≤ t) = false := decide_eq_false h6
      have d2 : decide (t ≤ x2) = true := decide_eq_true h5.1
      clear F1 F2 h5 h6
      go_wp2
      go_ret
      exact ⟨rfl, HB.out⟩
    | false =>
      clear F1 F2
      cases d3 : decide (0 ≤ t) with
      | true =>
        have h7 := of_decide_eq_true d3
        go_wp2
        go_ret
        exact ⟨rfl, HB.out⟩
      | false =>
        have h7 := of_decide_eq_false d3
        go_wp2
        go_ret
        exact ⟨rfl, HB.out⟩
theorem slotEmpty_walk (H : SlotOk) (A : Option Addr) (n c : Nat) (g : Gr) (A2 : Option Addr) (n2 c2 : Nat) (use : List Int) (A3 : Option Addr) (n3 c3 : Nat) (l : Tb) (s : Sp) (t u : Int) (w : World) (hr : RG w w.heap.size A n g) (hnil : A = none → c = 0) (hnc : n ≤ c) (_hn : n ≤ maxLen) (hr2 : RI w w.heap.size A2 n2 use) (hj2 : ∀ x ∈ use, I64 x) (hnil2 : A2 = none → c2 = 0) (hnc2 : n2 ≤ c2) (_hn2 : n2 ≤ maxLen) (hl : TAsk w A3 n3 c3 l) (hs : SAsk s) (ht : I64 t) (hv : I64 u) (hG : Glob w) : Calls Tryd.prog 4 #[.slice A n c, .slice A2 n2 c2, .slice A3 n3 c3, .agg #[.int .i64 s.nodes, .int .i64 s.cores, .int .i64 s.gpus, .string s.tag, .bool s.whole, .int .i64 s.long, .int .i64 s.prio], .int .i64 t, .int .i64 u] w fun e w' => e = .returned (.bool true) ∧ Below w.heap.size w w' := by
  cases hsm : decide (SmallS n n2 n3 l 0) with
  | false => exact slotEmpty_no H A n c g A2 n2 c2 use A3 n3 c3 l s t u w hl hsm hG
  | true =>
    have h := of_decide_eq_true hsm
    unfold SmallS at h
    exact slotEmpty_yes H ⟨hr, hnil, hnc, by omega⟩ ⟨hr2, hnil2, hnc2, by omega, hj2⟩ hl (short_fewS h.2.2.2.1) hs ht hv hsm hG

end Go.Proofs.YtpoalgkgomljmaaDoor
