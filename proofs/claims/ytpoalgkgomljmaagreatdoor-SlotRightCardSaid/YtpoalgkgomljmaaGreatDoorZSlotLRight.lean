/- SlotRight of layer 13, as a walk over the contracts. Written by gen/gen_slot.py. -/
import Derived.Test.YtpoalgkgomljmaaGreatDoorMg10
import Derived.Test.YtpoalgkgomljmaaGreatDoorZSlotRefB
namespace Go.Proofs.YtpoalgkgomljmaaGreatDoor
open Go.RowKit

section
variable {g : Gr} {use : List Int} {l : Tb} {s : Sp} {t u : Int}
theorem gotS_len : (gotS g use l s u t).length ≤ 256 := by
  by_cases h : FitsS g use l s u t
  · rw [gotS_is h]; exact findL_len (fits_spec h).1
  · rw [gotS_no h]; exact Nat.zero_le _
theorem firstLS_len : (firstLS g use l s t u).length ≤ 256 := by
  cases h : firstS g use l s t u with
  | none => rw [(first_none h).2.1]; exact Nat.zero_le _
  | some z => rw [(first_some h).2.1]; exact gotS_len
end
set_option maxRecDepth 100000 in
set_option maxHeartbeats 8000000 in
theorem slotRight_no (H : SlotOk) (A : Option Addr) (n c : Nat) (_g : Gr) (A2 : Option Addr) (n2 c2 : Nat) (_use : List Int) (A3 : Option Addr) (n3 c3 : Nat) (l : Tb) (s : Sp) (t u : Int) (w : World) (hl : TAsk w A3 n3 c3 l) (hs : decide (SmallS n n2 n3 l 0) = false) (hG : Glob w) : Calls Tryz.prog 3 #[.slice A n c, .slice A2 n2 c2, .slice A3 n3 c3, .agg #[.int .i64 s.nodes, .int .i64 s.cores, .int .i64 s.gpus, .string s.tag, .bool s.whole, .int .i64 s.long, .int .i64 s.prio], .int .i64 t, .int .i64 u] w fun e w' => e = .returned (.bool true) ∧ Below w.heap.size w w' := by
  have hba : Below w.heap.size w (w.alloc (.cells #[.int .i64 s.nodes, .int .i64 s.cores, .int .i64 s.gpus, .string s.tag, .bool s.whole, .int .i64 s.long, .int .i64 s.prio] 26)) := (Below.refl _ _).alloc (Nat.le_refl _) _
  have HB := Lib.hid hba
  have HG := Lib.hid (hG.next hba)
  have TA := Lib.hid (hl.next hba)
  have HSM := Lib.hid hs
  clear hba hG hl hs
  go_enter Tryz.func3, Tryz.ntmps3
  go_wp2_with fail
  refine (awake13_any H _ HG.out).mono ?_
  rintro e w1 ⟨rfl, hb⟩
  have HBq := Lib.hid (HB.out.trans (hb.mono HB.out.size))
  clear HB
  have HB := HBq
  clear HBq
  have HGq := Lib.hid (HG.out.next hb)
  clear HG
  have HG := HGq
  clear HGq
  have TAq := Lib.hid (TA.out.next hb)
  clear TA
  have TA := TAq
  clear TAq
  clear hb
  go_wp2_with fail
  refine (smallS_b TA.out HSM.out).mono ?_
  rintro e w2 ⟨rfl, hb⟩
  have HBq := Lib.hid (HB.out.trans (hb.mono HB.out.size))
  clear HB
  have HB := HBq
  clear HBq
  have HGq := Lib.hid (HG.out.next hb)
  clear HG
  have HG := HGq
  clear HGq
  have TAq := Lib.hid (TA.out.next hb)
  clear TA
  have TA := TAq
  clear TAq
  clear hb
  go_wp2
  go_ret
  exact ⟨rfl, HB.out⟩
set_option maxRecDepth 100000 in
set_option maxHeartbeats 8000000 in
theorem slotRight_yes (H : SlotOk) {A : Option Addr} {n c : Nat} {g : Gr} {A2 : Option Addr} {n2 c2 : Nat} {use : List Int} {A3 : Option Addr} {n3 c3 : Nat} {l : Tb} {s : Sp} {t u : Int} {w : World} (hg : GAsk w A n c g) (hu : LAsk w A2 n2 c2 use) (hl : TAsk w A3 n3 c3 l) (hf : FewT l) (hs : SAsk s) (ht : I64 t) (hv : I64 u) (hsm : decide (SmallS n n2 n3 l 0) = true) (hG : Glob w) : Calls Tryz.prog 3 #[.slice A n c, .slice A2 n2 c2, .slice A3 n3 c3, .agg #[.int .i64 s.nodes, .int .i64 s.cores, .int .i64 s.gpus, .string s.tag, .bool s.whole, .int .i64 s.long, .int .i64 s.prio], .int .i64 t, .int .i64 u] w fun e w' => e = .returned (.bool true) ∧ Below w.heap.size w w' := by
  have hba : Below w.heap.size w (w.alloc (.cells #[.int .i64 s.nodes, .int .i64 s.cores, .int .i64 s.gpus, .string s.tag, .bool s.whole, .int .i64 s.long, .int .i64 s.prio] 26)) := (Below.refl _ _).alloc (Nat.le_refl _) _
  have HB := Lib.hid hba
  have HG := Lib.hid (hG.next hba)
  have GA := Lib.hid (hg.next hba)
  have UA := Lib.hid (hu.next hba)
  have TA := Lib.hid (hl.next hba)
  have BS : Hid (BoxS (w.alloc (.cells #[.int .i64 s.nodes, .int .i64 s.cores, .int .i64 s.gpus, .string s.tag, .bool s.whole, .int .i64 s.long, .int .i64 s.prio] 26)) w.heap.size s) := Lib.hid (box_new w s)
  have HF := Lib.hid hf
  have HS := Lib.hid hs
  have HT := Lib.hid ht
  have HV := Lib.hid hv
  have HSM := Lib.hid hsm
  obtain ⟨r1, e1⟩ : ∃ r, gotS g use l s u t = r := ⟨_, rfl⟩
  obtain ⟨b1, e2⟩ : ∃ b, decide (FitsS g use l s u t) = b := ⟨_, rfl⟩
  obtain ⟨x2, e3⟩ : ∃ r, firstAtS g use l s t u = r := ⟨_, rfl⟩
  obtain ⟨r2, e4⟩ : ∃ r, firstLS g use l s t u = r := ⟨_, rfl⟩
  obtain ⟨b2, e5⟩ : ∃ b, firstBS g use l s t u = b := ⟨_, rfl⟩
  have L1 : Hid (r1.length ≤ maxLen) := Lib.hid (by rw [← e1]; exact Nat.le_trans gotS_len (by decide))
  have L2 : Hid (r2.length ≤ maxLen) := Lib.hid (by rw [← e4]; exact Nat.le_trans firstLS_len (by decide))
  have HRA : Hid (∀ W, GAsk W A n c g → LAsk W A2 n2 c2 use → TAsk W A3 n3 c3 l → Calls Tryz.prog 10 #[.slice A n c, .slice A2 n2 c2, .slice A3 n3 c3, .agg #[.int .i64 s.nodes, .int .i64 s.cores, .int .i64 s.gpus, .string s.tag, .bool s.whole, .int .i64 s.long, .int .i64 s.prio], .int .i64 t, .int .i64 u] W (FPost r1 b1 W)) := Lib.hid (fun W h1 h2 h3 => by
    have := refAtS_any (t := t) h1 h2 h3 hs ht hv
    rw [e1, e2] at this; exact this)
  have HRF : Hid (∀ W, GAsk W A n c g → LAsk W A2 n2 c2 use → TAsk W A3 n3 c3 l → Calls Tryz.prog 12 #[.slice A n c, .slice A2 n2 c2, .slice A3 n3 c3, .agg #[.int .i64 s.nodes, .int .i64 s.cores, .int .i64 s.gpus, .string s.tag, .bool s.whole, .int .i64 s.long, .int .i64 s.prio], .int .i64 t, .int .i64 u] W (FTPost x2 r2 b2 W)) := Lib.hid (fun W h1 h2 h3 => by
    have := refFirstS_any (t := t) h1 h2 h3 hs ht hv
    rw [e3, e4, e5] at this; exact this)
  have E1 := Lib.hid e1
  have E2 := Lib.hid e2
  have E3 := Lib.hid e3
  have E4 := Lib.hid e4
  have E5 := Lib.hid e5
  have db1 : (b1 == b1) = true := by simp
  have db2 : (b2 == b2) = true := by simp
  have dx : (x2 == x2) = true := by simp
  clear hba hG hg hu hl hf hs ht hv hsm e1 e2 e3 e4 e5
  go_enter Tryz.func3, Tryz.ntmps3
  go_wp2_with fail
  refine (awake13_any H _ HG.out).mono ?_
  rintro e w1 ⟨rfl, hb⟩
  have HBq := Lib.hid (HB.out.trans (hb.mono HB.out.size))
  clear HB
  have HB := HBq
  clear HBq
  have HGq := Lib.hid (HG.out.next hb)
  clear HG
  have HG := HGq
  clear HGq
  have GAq := Lib.hid (GA.out.next hb)
  clear GA
  have GA := GAq
  clear GAq
  have UAq := Lib.hid (UA.out.next hb)
  clear UA
  have UA := UAq
  clear UAq
  have TAq := Lib.hid (TA.out.next hb)
  clear TA
  have TA := TAq
  clear TAq
  have BSq := Lib.hid (BS.out.next hb)
  clear BS
  have BS := BSq
  clear BSq
  clear hb
  go_wp2_with fail
  refine (smallS_b TA.out HSM.out).mono ?_
  rintro e w2 ⟨rfl, hb⟩
  have HBq := Lib.hid (HB.out.trans (hb.mono HB.out.size))
  clear HB
  have HB := HBq
  clear HBq
  have HGq := Lib.hid (HG.out.next hb)
  clear HG
  have HG := HGq
  clear HGq
  have GAq := Lib.hid (GA.out.next hb)
  clear GA
  have GA := GAq
  clear GAq
  have UAq := Lib.hid (UA.out.next hb)
  clear UA
  have UA := UAq
  clear UAq
  have TAq := Lib.hid (TA.out.next hb)
  clear TA
  have TA := TAq
  clear TAq
  have BSq := Lib.hid (BS.out.next hb)
  clear BS
  have BS := BSq
  clear BSq
  clear hb
  have q0 := BS.out.c0
  have q1 := BS.out.c1
  have q2 := BS.out.c2
  have q3 := BS.out.c3
  have q4 := BS.out.c4
  have q5 := BS.out.c5
  have q6 := BS.out.c6
  go_wp2_with fail
  refine (s13_at H GA.out UA.out TA.out HF.out HS.out HT.out HV.out HG.out E1.out E2.out).mono ?_
  rintro e w3 ⟨⟨A31, c31, rfl, hr3, hn3, hc3⟩, hb⟩
  have HBq := Lib.hid (HB.out.trans (hb.mono HB.out.size))
  clear HB
  have HB := HBq
  clear HBq
  have HGq := Lib.hid (HG.out.next hb)
  clear HG
  have HG := HGq
  clear HGq
  have GAq := Lib.hid (GA.out.next hb)
  clear GA
  have GA := GAq
  clear GAq
  have UAq := Lib.hid (UA.out.next hb)
  clear UA
  have UA := UAq
  clear UAq
  have TAq := Lib.hid (TA.out.next hb)
  clear TA
  have TA := TAq
  clear TAq
  have BSq := Lib.hid (BS.out.next hb)
  clear BS
  have BS := BSq
  clear BSq
  clear hb
  have R3 := Lib.hid hr3
  clear hr3 hn3 hc3
  clear q0 q1 q2 q3 q4 q5 q6
  have q0 := BS.out.c0
  have q1 := BS.out.c1
  have q2 := BS.out.c2
  have q3 := BS.out.c3
  have q4 := BS.out.c4
  have q5 := BS.out.c5
  have q6 := BS.out.c6
  go_wp2_with fail
  refine (HRA.out _ GA.out UA.out TA.out).mono ?_
  rintro e w4 ⟨⟨A41, c41, rfl, hr4, hn4, hc4⟩, hb⟩
  have HBq := Lib.hid (HB.out.trans (hb.mono HB.out.size))
  clear HB
  have HB := HBq
  clear HBq
  have HGq := Lib.hid (HG.out.next hb)
  clear HG
  have HG := HGq
  clear HGq
  have GAq := Lib.hid (GA.out.next hb)
  clear GA
  have GA := GAq
  clear GAq
  have UAq := Lib.hid (UA.out.next hb)
  clear UA
  have UA := UAq
  clear UAq
  have TAq := Lib.hid (TA.out.next hb)
  clear TA
  have TA := TAq
  clear TAq
  have BSq := Lib.hid (BS.out.next hb)
  clear BS
  have BS := BSq
  clear BSq
  have R3q := Lib.hid (R3.out.next hb)
  clear R3
  have R3 := R3q
  clear R3q
  clear hb
  have R4 := Lib.hid hr4
  clear hr4 hn4 hc4
  clear q0 q1 q2 q3 q4 q5 q6
  have q0 := BS.out.c0
  have q1 := BS.out.c1
  have q2 := BS.out.c2
  have q3 := BS.out.c3
  have q4 := BS.out.c4
  have q5 := BS.out.c5
  have q6 := BS.out.c6
  go_wp2_with fail
  refine (s13_first H GA.out UA.out TA.out HF.out HS.out HT.out HV.out HG.out E3.out E4.out E5.out).mono ?_
  rintro e w5 ⟨⟨A51, c51, rfl, hr5, hn5, hc5⟩, hb⟩
  have HBq := Lib.hid (HB.out.trans (hb.mono HB.out.size))
  clear HB
  have HB := HBq
  clear HBq
  have HGq := Lib.hid (HG.out.next hb)
  clear HG
  have HG := HGq
  clear HGq
  have GAq := Lib.hid (GA.out.next hb)
  clear GA
  have GA := GAq
  clear GAq
  have UAq := Lib.hid (UA.out.next hb)
  clear UA
  have UA := UAq
  clear UAq
  have TAq := Lib.hid (TA.out.next hb)
  clear TA
  have TA := TAq
  clear TAq
  have BSq := Lib.hid (BS.out.next hb)
  clear BS
  have BS := BSq
  clear BSq
  have R3q := Lib.hid (R3.out.next hb)
  clear R3
  have R3 := R3q
  clear R3q
  have R4q := Lib.hid (R4.out.next hb)
  clear R4
  have R4 := R4q
  clear R4q
  clear hb
  have R5 := Lib.hid hr5
  clear hr5 hn5 hc5
  clear q0 q1 q2 q3 q4 q5 q6
  have q0 := BS.out.c0
  have q1 := BS.out.c1
  have q2 := BS.out.c2
  have q3 := BS.out.c3
  have q4 := BS.out.c4
  have q5 := BS.out.c5
  have q6 := BS.out.c6
  go_wp2_with fail
  refine (HRF.out _ GA.out UA.out TA.out).mono ?_
  rintro e w6 ⟨⟨A61, c61, rfl, hr6, hn6, hc6⟩, hb⟩
  have HBq := Lib.hid (HB.out.trans (hb.mono HB.out.size))
  clear HB
  have HB := HBq
  clear HBq
  have HGq := Lib.hid (HG.out.next hb)
  clear HG
  have HG := HGq
  clear HGq
  have GAq := Lib.hid (GA.out.next hb)
  clear GA
  have GA := GAq
  clear GAq
  have UAq := Lib.hid (UA.out.next hb)
  clear UA
  have UA := UAq
  clear UAq
  have TAq := Lib.hid (TA.out.next hb)
  clear TA
  have TA := TAq
  clear TAq
  have BSq := Lib.hid (BS.out.next hb)
  clear BS
  have BS := BSq
  clear BSq
  have R3q := Lib.hid (R3.out.next hb)
  clear R3
  have R3 := R3q
  clear R3q
  have R4q := Lib.hid (R4.out.next hb)
  clear R4
  have R4 := R4q
  clear R4q
  have R5q := Lib.hid (R5.out.next hb)
  clear R5
  have R5 := R5q
  clear R5q
  clear hb
  have R6 := Lib.hid hr6
  clear hr6 hn6 hc6
  clear q0 q1 q2 q3 q4 q5 q6
  go_wp2_with fail
  refine (ri_same R3.out R4.out L1.out L1.out (sameB_iff.2 rfl)).mono ?_
  rintro e w7 ⟨rfl, hb⟩
  have HBq := Lib.hid (HB.out.trans (hb.mono HB.out.size))
  clear HB
  have HB := HBq
  clear HBq
  have HGq := Lib.hid (HG.out.next hb)
  clear HG
  have HG := HGq
  clear HGq
  have GAq := Lib.hid (GA.out.next hb)
  clear GA
  have GA := GAq
  clear GAq
  have UAq := Lib.hid (UA.out.next hb)
  clear UA
  have UA := UAq
  clear UAq
  have TAq := Lib.hid (TA.out.next hb)
  clear TA
  have TA := TAq
  clear TAq
  have BSq := Lib.hid (BS.out.next hb)
  clear BS
  have BS := BSq
  clear BSq
  have R3q := Lib.hid (R3.out.next hb)
  clear R3
  have R3 := R3q
  clear R3q
  have R4q := Lib.hid (R4.out.next hb)
  clear R4
  have R4 := R4q
  clear R4q
  have R5q := Lib.hid (R5.out.next hb)
  clear R5
  have R5 := R5q
  clear R5q
  have R6q := Lib.hid (R6.out.next hb)
  clear R6
  have R6 := R6q
  clear R6q
  clear hb
  go_wp2_with fail
  refine (ri_same R5.out R6.out L2.out L2.out (sameB_iff.2 rfl)).mono ?_
  rintro e w8 ⟨rfl, hb⟩
  have HBq := Lib.hid (HB.out.trans (hb.mono HB.out.size))
  clear HB
  have HB := HBq
  clear HBq
  have HGq := Lib.hid (HG.out.next hb)
  clear HG
  have HG := HGq
  clear HGq
  have GAq := Lib.hid (GA.out.next hb)
  clear GA
  have GA := GAq
  clear GAq
  have UAq := Lib.hid (UA.out.next hb)
  clear UA
  have UA := UAq
  clear UAq
  have TAq := Lib.hid (TA.out.next hb)
  clear TA
  have TA := TAq
  clear TAq
  have BSq := Lib.hid (BS.out.next hb)
  clear BS
  have BS := BSq
  clear BSq
  have R3q := Lib.hid (R3.out.next hb)
  clear R3
  have R3 := R3q
  clear R3q
  have R4q := Lib.hid (R4.out.next hb)
  clear R4
  have R4 := R4q
  clear R4q
  have R5q := Lib.hid (R5.out.next hb)
  clear R5
  have R5 := R5q
  clear R5q
  have R6q := Lib.hid (R6.out.next hb)
  clear R6
  have R6 := R6q
  clear R6q
  clear hb
  go_wp2
  go_ret
  exact ⟨rfl, HB.out⟩
theorem slotRight_walk (H : SlotOk) (A : Option Addr) (n c : Nat) (g : Gr) (A2 : Option Addr) (n2 c2 : Nat) (use : List Int) (A3 : Option Addr) (n3 c3 : Nat) (l : Tb) (s : Sp) (t u : Int) (w : World) (hr : RG w w.heap.size A n g) (hnil : A = none → c = 0) (hnc : n ≤ c) (_hn : n ≤ maxLen) (hr2 : RI w w.heap.size A2 n2 use) (hj2 : ∀ x ∈ use, I64 x) (hnil2 : A2 = none → c2 = 0) (hnc2 : n2 ≤ c2) (_hn2 : n2 ≤ maxLen) (hl : TAsk w A3 n3 c3 l) (hs : SAsk s) (ht : I64 t) (hv : I64 u) (hG : Glob w) : Calls Tryz.prog 3 #[.slice A n c, .slice A2 n2 c2, .slice A3 n3 c3, .agg #[.int .i64 s.nodes, .int .i64 s.cores, .int .i64 s.gpus, .string s.tag, .bool s.whole, .int .i64 s.long, .int .i64 s.prio], .int .i64 t, .int .i64 u] w fun e w' => e = .returned (.bool true) ∧ Below w.heap.size w w' := by
  cases hsm : decide (SmallS n n2 n3 l 0) with
  | false => exact slotRight_no H A n c g A2 n2 c2 use A3 n3 c3 l s t u w hl hsm hG
  | true =>
    have h := of_decide_eq_true hsm
    unfold SmallS at h
    exact slotRight_yes H ⟨hr, hnil, hnc, by omega⟩ ⟨hr2, hnil2, hnc2, by omega, hj2⟩ hl (short_fewS h.2.2.2.1) hs ht hv hsm hG

end Go.Proofs.YtpoalgkgomljmaaGreatDoor
