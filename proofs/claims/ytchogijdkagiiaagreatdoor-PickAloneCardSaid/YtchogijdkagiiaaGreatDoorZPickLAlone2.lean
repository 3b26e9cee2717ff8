/- The ways of PickAlone of layer 14, as a walk over the contracts. Written by gen/gen_pick.py. -/
import Derived.Deep.RegionHeld3
import Derived.Test.YtchogijdkagiiaaGreatDoorMg08
import Derived.Test.YtchogijdkagiiaaGreatDoorMg05
import Derived.Test.YtchogijdkagiiaaGreatDoorMg04
namespace Go.Proofs.YtchogijdkagiiaaGreatDoor
open Go.RowKit

set_option maxRecDepth 100000 in
set_option maxHeartbeats 8000000 in
theorem pickAlone_2 (H : PickOk) (H3 : SlotOk) (HD : HeldOk) (HSP : SpecOk) {A : Option Addr} {n c : Nat} {g : Gr} {A2 : Option Addr} {n2 c2 : Nat} {use : List Int} {A3 : Option Addr} {n3 c3 : Nat} {l : Tb} {x : Wn} {t u vp vd dd : Int} {w : World} (hg : GAsk w A n c g) (hu : LAsk w A2 n2 c2 use) (hl : TAsk w A3 n3 c3 l) (hf : FewT l) (hxs : SAsk x.spec) (hxi : I64 x.id) (ht : I64 t) (hv : I64 u) (_hvp1 : 0 ≤ vp) (_hvp2 : vp < 256) (_hvd1 : 0 ≤ vd) (_hvd2 : vd < 256) (hpp : Int.tmod vp 3 = 1) (hdd : Int.tmod vd 9 = dd) (hdd1 : 0 ≤ dd) (hdd2 : dd ≤ 8) (hsm : decide (SmallS n n2 n3 l 1) = true) (hG : Glob w) : Calls Tryz.prog 7 #[.slice A n c, .slice A2 n2 c2, .slice A3 n3 c3, .agg #[.int .i64 x.id, .int .i64 x.spec.nodes, .int .i64 x.spec.cores, .int .i64 x.spec.gpus, .string x.spec.tag, .bool x.spec.whole, .int .i64 x.spec.long, .int .i64 x.spec.prio], .int .i64 t, .int .i64 u, .int .u8 vp, .int .u8 vd] w fun e w' => e = .returned (.bool true) ∧ Below w.heap.size w w' := by
  have hba : Below w.heap.size w (w.alloc (.cells #[.int .i64 x.id, .int .i64 x.spec.nodes, .int .i64 x.spec.cores, .int .i64 x.spec.gpus, .string x.spec.tag, .bool x.spec.whole, .int .i64 x.spec.long, .int .i64 x.spec.prio] 43)) := (Below.refl _ _).alloc (Nat.le_refl _) _
  have HB := Lib.hid hba
  have HG := Lib.hid (hG.next hba)
  have TA := Lib.hid (hl.next hba)
  have BW : Hid (BoxW (w.alloc (.cells #[.int .i64 x.id, .int .i64 x.spec.nodes, .int .i64 x.spec.cores, .int .i64 x.spec.gpus, .string x.spec.tag, .bool x.spec.whole, .int .i64 x.spec.long, .int .i64 x.spec.prio] 43)) w.heap.size x) := Lib.hid (boxW_new w x)
  have HXS := Lib.hid hxs
  have HXI := Lib.hid hxi
  have HSM := Lib.hid hsm
  have GA := Lib.hid (hg.next hba)
  have UA := Lib.hid (hu.next hba)
  have HF := Lib.hid hf
  have HT := Lib.hid ht
  have HV := Lib.hid hv
  have hsp := of_decide_eq_true hsm
  unfold SmallS at hsp
  have HN60 : Hid (n ≤ 60) := Lib.hid (by omega)
  have HN61 : Hid (n3 + 1 ≤ 60) := Lib.hid (by omega)
  have HL30 : Hid (l.length ≤ 30) := Lib.hid (by rw [hl.reads.len]; omega)
  have HPP : Hid (I64 2) := Lib.hid (i64_of (by decide) (by decide))
  have HDD : Hid (I64 dd) := Lib.hid (by unfold I64; omega)
  have hwl : [x].length ≤ 8 := by simp
  obtain ⟨a, j3⟩ : ∃ r, (pickA g use l [x] t u 2 dd).1 = r := ⟨_, rfl⟩
  obtain ⟨ka, i3⟩ : ∃ r, (pickA g use l [x] t u 2 dd).2.1 = r := ⟨_, rfl⟩
  obtain ⟨ea, g3⟩ : ∃ r, (pickA g use l [x] t u 2 dd).2.2 = r := ⟨_, rfl⟩
  have P3 : Hid (pickA g use l [x] t u 2 dd = (a, ka, ea)) := Lib.hid (by rw [← j3, ← i3, ← g3])
  have L3 : Hid (a.length + ka.length ≤ 8) := Lib.hid (by have := @pickA_len g use [x] t u 2 dd l; rw [j3, i3] at this; omega)
  have M3 : Hid (a.length ≤ maxLen ∧ ka.length ≤ maxLen) := Lib.hid (by have := L3.out; unfold maxLen; omega)
  obtain ⟨ft, hft⟩ : ∃ r, firstAtS g use l x.spec t u = r := ⟨_, rfl⟩
  obtain ⟨fl, hfl⟩ : ∃ r, firstLS g use l x.spec t u = r := ⟨_, rfl⟩
  obtain ⟨b1, hb1⟩ : ∃ r, firstBS g use l x.spec t u = r := ⟨_, rfl⟩
  obtain ⟨ee, hee⟩ : ∃ r, endsS x.spec ft = r := ⟨_, rfl⟩
  obtain ⟨z, hz⟩ : ∃ r, getT l x.id = r := ⟨_, rfl⟩
  obtain ⟨th, hth⟩ : ∃ r, gotT l x.id = r := ⟨_, rfl⟩
  obtain ⟨rb, hrb⟩ : ∃ r, rightT l = r := ⟨_, rfl⟩
  have HHW : Hid (heldW g use l x t u = ⟨x.id, fl, ft, ee⟩) := Lib.hid (by unfold heldW; rw [hft, hfl, hee])
  have HFI : Hid (b1 = true → I64 ft ∧ I64 ee ∧ (∀ q ∈ fl, I64 q) ∧ fl.length ≤ 256) := Lib.hid (fun h => by
    have h2 : firstBS g use l x.spec t u = true := hb1.trans h
    have h3 := first_int h2
    have h4 := first_len h2
    rw [hft] at h3
    rw [hfl] at h3 h4
    rw [hee] at h3
    exact ⟨h3.1, h3.2.1, h3.2.2, h4⟩)
  have E1 := Lib.hid (show firstAtS g use l x.spec t u = ft ∧ firstLS g use l x.spec t u = fl ∧ firstBS g use l x.spec t u = b1 from ⟨hft, hfl, hb1⟩)
  have G1 := Lib.hid hz
  have G2 := Lib.hid hth
  have RR := Lib.hid hrb
  have HEW0 : Hid (b1 = true → ∀ W : World, Glob W → Calls Tryz.prog 18 #[.agg #[.int .i64 x.spec.nodes, .int .i64 x.spec.cores, .int .i64 x.spec.gpus, .string x.spec.tag, .bool x.spec.whole, .int .i64 x.spec.long, .int .i64 x.spec.prio], .int .i64 ft] W fun e w' => e = .returned (.int .i64 ee) ∧ Below W.heap.size W w') := Lib.hid (fun h W hgw => s7_ends HSP HXS.out hgw (HFI.out h).1 hee)
  clear hba hG hg hu hl hf hxs hxi ht hv hsm hsp hwl j3 i3 g3 hft hfl hb1 hee hz hth hrb
  go_enter Tryz.func7, Tryz.ntmps7
  go_wp2_with fail
  refine (awake14_any H _ HG.out).mono ?_
  rintro e w1 ⟨rfl, hb⟩
  replace HB := Lib.hid (HB.out.trans (hb.mono HB.out.size))
  replace HG := Lib.hid (HG.out.next hb)
  replace GA := Lib.hid (GA.out.next hb)
  replace UA := Lib.hid (UA.out.next hb)
  replace TA := Lib.hid (TA.out.next hb)
  replace BW := Lib.hid (BW.out.next hb)
  clear hb
  have q0 := BW.out.c0
  have q1 := BW.out.c1
  have q2 := BW.out.c2
  have q3 := BW.out.c3
  have q4 := BW.out.c4
  have q5 := BW.out.c5
  have q6 := BW.out.c6
  have q7 := BW.out.c7
  have hb := Below.alloc (Below.refl w1.heap.size w1) (Nat.le_refl _) (.cells #[.int .i64 x.id, .int .i64 x.spec.nodes, .int .i64 x.spec.cores, .int .i64 x.spec.gpus, .string x.spec.tag, .bool x.spec.whole, .int .i64 x.spec.long, .int .i64 x.spec.prio] 43)
  have WA1q := Lib.hid (show WnAsk (w1.alloc (.cells #[.int .i64 x.id, .int .i64 x.spec.nodes, .int .i64 x.spec.cores, .int .i64 x.spec.gpus, .string x.spec.tag, .bool x.spec.whole, .int .i64 x.spec.long, .int .i64 x.spec.prio] 43)) _ 1 1 [x] from wn_lit1 w1 x HXS.out HXI.out)
  replace HB := Lib.hid (HB.out.trans (hb.mono HB.out.size))
  replace HG := Lib.hid (HG.out.next hb)
  replace GA := Lib.hid (GA.out.next hb)
  replace UA := Lib.hid (UA.out.next hb)
  replace TA := Lib.hid (TA.out.next hb)
  replace BW := Lib.hid (BW.out.next hb)
  clear hb
  have WA1 := WA1q
  clear WA1q
  go_wp2_with fail
  refine (smallP_b TA.out HSM.out).mono ?_
  rintro e w2 ⟨rfl, hb⟩
  replace HB := Lib.hid (HB.out.trans (hb.mono HB.out.size))
  replace HG := Lib.hid (HG.out.next hb)
  replace GA := Lib.hid (GA.out.next hb)
  replace UA := Lib.hid (UA.out.next hb)
  replace TA := Lib.hid (TA.out.next hb)
  replace BW := Lib.hid (BW.out.next hb)
  replace WA1 := Lib.hid (WA1.out.next hb)
  clear hb
  clear q0 q1 q2 q3 q4 q5 q6 q7
  clear WA1
  have q0 := BW.out.c0
  have q1 := BW.out.c1
  have q2 := BW.out.c2
  have q3 := BW.out.c3
  have q4 := BW.out.c4
  have q5 := BW.out.c5
  have q6 := BW.out.c6
  have q7 := BW.out.c7
  have hb := Below.alloc (Below.refl w2.heap.size w2) (Nat.le_refl _) (.cells #[.int .i64 x.id, .int .i64 x.spec.nodes, .int .i64 x.spec.cores, .int .i64 x.spec.gpus, .string x.spec.tag, .bool x.spec.whole, .int .i64 x.spec.long, .int .i64 x.spec.prio] 43)
  have WA2q := Lib.hid (show WnAsk (w2.alloc (.cells #[.int .i64 x.id, .int .i64 x.spec.nodes, .int .i64 x.spec.cores, .int .i64 x.spec.gpus, .string x.spec.tag, .bool x.spec.whole, .int .i64 x.spec.long, .int .i64 x.spec.prio] 43)) _ 1 1 [x] from wn_lit1 w2 x HXS.out HXI.out)
  replace HB := Lib.hid (HB.out.trans (hb.mono HB.out.size))
  replace HG := Lib.hid (HG.out.next hb)
  replace GA := Lib.hid (GA.out.next hb)
  replace UA := Lib.hid (UA.out.next hb)
  replace TA := Lib.hid (TA.out.next hb)
  replace BW := Lib.hid (BW.out.next hb)
  clear hb
  have WA2 := WA2q
  clear WA2q
  go_wp2_with fail
  refine (p14_pick H GA.out UA.out TA.out HF.out WA2.out HN60.out HN61.out HT.out HV.out HPP.out HDD.out HG.out P3.out).mono ?_
  rintro e w3 ⟨⟨A31, c31, A32, c32, rfl, ⟨hr3, hn3, hc3⟩, ⟨kr3, kn3, kc3⟩⟩, hb⟩
  replace HB := Lib.hid (HB.out.trans (hb.mono HB.out.size))
  replace HG := Lib.hid (HG.out.next hb)
  replace GA := Lib.hid (GA.out.next hb)
  replace UA := Lib.hid (UA.out.next hb)
  replace TA := Lib.hid (TA.out.next hb)
  replace BW := Lib.hid (BW.out.next hb)
  replace WA2 := Lib.hid (WA2.out.next hb)
  clear hb
  have RA := Lib.hid (ans_ask hr3 hn3 hc3 M3.out.1)
  have RB := Lib.hid (ans_ask kr3 kn3 kc3 M3.out.2)
  clear hr3 hn3 hc3 kr3 kn3 kc3
  clear q0 q1 q2 q3 q4 q5 q6 q7
  have q0 := BW.out.c0
  have q1 := BW.out.c1
  have q2 := BW.out.c2
  have q3 := BW.out.c3
  have q4 := BW.out.c4
  have q5 := BW.out.c5
  have q6 := BW.out.c6
  have q7 := BW.out.c7
  clear WA2
  go_wp2_with fail
  refine (s13_first H3 GA.out UA.out TA.out HF.out HXS.out HT.out HV.out HG.out E1.out.1 E1.out.2.1 E1.out.2.2).mono ?_
  rintro e w4 ⟨⟨A8, c8, rfl, hr8, hn8, hc8⟩, hb⟩
  replace HB := Lib.hid (HB.out.trans (hb.mono HB.out.size))
  replace HG := Lib.hid (HG.out.next hb)
  replace GA := Lib.hid (GA.out.next hb)
  replace UA := Lib.hid (UA.out.next hb)
  replace TA := Lib.hid (TA.out.next hb)
  replace BW := Lib.hid (BW.out.next hb)
  replace RA := Lib.hid (RA.out.next hb)
  replace RB := Lib.hid (RB.out.next hb)
  clear hb
  have R8 := Lib.hid hr8
  have N8 := Lib.hid hn8
  have C8 := Lib.hid hc8
  clear hr8 hn8 hc8
  clear q0 q1 q2 q3 q4 q5 q6 q7
  obtain ⟨m8, hm8⟩ : ∃ m8, fl.length = m8 := ⟨_, rfl⟩
  have HM8 := Lib.hid hm8
  rw [hm8] at R8 C8 ⊢
  clear hm8
  have q0 := BW.out.c0
  go_wp2_with fail
  refine (h10_get HD TA.out HF.out G1.out G2.out).mono ?_
  rintro e w5 ⟨⟨A6, m6, c6, rfl, hh6⟩, hb⟩
  replace HB := Lib.hid (HB.out.trans (hb.mono HB.out.size))
  replace HG := Lib.hid (HG.out.next hb)
  replace GA := Lib.hid (GA.out.next hb)
  replace UA := Lib.hid (UA.out.next hb)
  replace TA := Lib.hid (TA.out.next hb)
  replace BW := Lib.hid (BW.out.next hb)
  replace RA := Lib.hid (RA.out.next hb)
  replace RB := Lib.hid (RB.out.next hb)
  replace R8 := Lib.hid (R8.out.next hb)
  clear hb
  clear q0 hh6
  have hb := Below.alloc (Below.refl w5.heap.size w5) (Nat.le_refl _) (.cells #[.int .i64 z.id, .slice A6 m6 c6, .int .i64 z.frm, .int .i64 z.to] 41)
  replace HB := Lib.hid (HB.out.trans (hb.mono HB.out.size))
  replace HG := Lib.hid (HG.out.next hb)
  replace GA := Lib.hid (GA.out.next hb)
  replace UA := Lib.hid (UA.out.next hb)
  replace TA := Lib.hid (TA.out.next hb)
  replace BW := Lib.hid (BW.out.next hb)
  replace RA := Lib.hid (RA.out.next hb)
  replace RB := Lib.hid (RB.out.next hb)
  replace R8 := Lib.hid (R8.out.next hb)
  clear hb
  go_wp2_with fail
  refine (h10_right HD TA.out HF.out RR.out).mono ?_
  rintro e w6 ⟨rfl, hb⟩
  replace HB := Lib.hid (HB.out.trans (hb.mono HB.out.size))
  replace HG := Lib.hid (HG.out.next hb)
  replace GA := Lib.hid (GA.out.next hb)
  replace UA := Lib.hid (UA.out.next hb)
  replace TA := Lib.hid (TA.out.next hb)
  replace BW := Lib.hid (BW.out.next hb)
  replace RA := Lib.hid (RA.out.next hb)
  replace RB := Lib.hid (RB.out.next hb)
  replace R8 := Lib.hid (R8.out.next hb)
  clear hb
  cases rb with
  | false =>
    have hea : ea = 1 := congrArg (fun z => z.2.2) (P3.out.symm.trans (alone_wrong RR.out))
    have d1 : (ea == 1) = true := beq_iff_eq.2 hea
    clear hea
    go_wp2
    go_ret
    exact ⟨rfl, HB.out⟩
  | true =>
    have HMAY : Hid (PickMay 2 dd l) := Lib.hid ⟨by omega, hdd1, by omega, RR.out⟩
    cases b1 with
    | false =>
      have HB1 : Hid (firstBS g use l x.spec t u = false) := Lib.hid E1.out.2.2
      have hp3 := P3.out.symm.trans (alone_no HMAY.out (.inl HB1.out))
      obtain ⟨ha, hka, hea⟩ : a = [] ∧ ka = [] ∧ ea = 0 := by
        have h1 := congrArg Prod.fst hp3
        have h2 := congrArg (fun z => z.2.1) hp3
        have h3 := congrArg (fun z => z.2.2) hp3
        exact ⟨h1, h2, h3⟩
      clear hp3 P3
      subst ha hka hea
      go_wp2
      go_ret
      exact ⟨rfl, HB.out⟩
    | true =>
      have HB1 : Hid (firstBS g use l x.spec t u = true) := Lib.hid E1.out.2.2
      have hth0 : hasT l x.id = th := by rw [← got_is RR.out]; exact G2.out
      by_cases hn : ft = t
      · have HNF : firstAtS g use l x.spec t u = t := E1.out.1.trans hn
        have dft : (ft != t) = false := by rw [hn]; simp
        have dfe : (ft == t) = true := beq_iff_eq.2 hn
        cases th with
        | true =>
          have hth : hasT l x.id = true := hth0
          have hp3 := P3.out.symm.trans (alone_there HMAY.out HB1.out (.inl HNF) hth)
          obtain ⟨ha, hka, hea⟩ : a = [] ∧ ka = [] ∧ ea = 7 := by
            have h1 := congrArg Prod.fst hp3
            have h2 := congrArg (fun z => z.2.1) hp3
            have h3 := congrArg (fun z => z.2.2) hp3
            exact ⟨h1, h2, h3⟩
          clear hp3 P3
          subst ha hka hea
          clear hth hth0 HNF hn
          go_wp2
          go_ret
          exact ⟨rfl, HB.out⟩
        | false =>
          have hth : hasT l x.id = false := hth0
          have hp3 := P3.out.symm.trans (alone_now HMAY.out HL30.out HB1.out hth HNF)
          obtain ⟨ha, hka, hea⟩ : a = [heldW g use l x t u] ∧ ka = [] ∧ ea = 0 := by
            have h1 := congrArg Prod.fst hp3
            have h2 := congrArg (fun z => z.2.1) hp3
            have h3 := congrArg (fun z => z.2.2) hp3
            exact ⟨h1, h2, h3⟩
          clear hp3 P3
          rw [HHW.out] at ha
          subst ha hka hea
          clear hth hth0 HNF hn
          have HENDW := Lib.hid (HEW0.out rfl)
          have HFJ := HFI.out rfl
          have HH8 : Hid (HAsk w6 A8 m8 c8 ⟨x.id, fl, ft, ee⟩) := Lib.hid ⟨R8.out, N8.out, C8.out, by have h1 := HFJ.2.2.2; rw [HM8.out] at h1; unfold maxLen; omega, HXI.out, HFJ.1, HFJ.2.1, HFJ.2.2.1⟩
          clear HFJ
          go_upto_region 16 with fail
          go_cut [28] (fun hv wx => ∃ hb : Nat, hv = .pointer (some ⟨hb, 0, none⟩) ∧ w6.heap.size ≤ hb ∧ BoxH wx hb ⟨x.id, fl, ft, ee⟩ A8 m8 c8 ∧ Below w6.heap.size w6 wx)
          case first =>
            have HKEEP : Hid (∀ wx, Below w6.drew.heap.size w6.drew wx → wx.cell? ⟨w.heap.size, 0, none⟩ = some (.int .i64 x.id) ∧ wx.cell? ⟨w.heap.size, 1, none⟩ = some (.int .i64 x.spec.nodes) ∧ wx.cell? ⟨w.heap.size, 2, none⟩ = some (.int .i64 x.spec.cores) ∧ wx.cell? ⟨w.heap.size, 3, none⟩ = some (.int .i64 x.spec.gpus) ∧ wx.cell? ⟨w.heap.size, 4, none⟩ = some (.string x.spec.tag) ∧ wx.cell? ⟨w.heap.size, 5, none⟩ = some (.bool x.spec.whole) ∧ wx.cell? ⟨w.heap.size, 6, none⟩ = some (.int .i64 x.spec.long) ∧ wx.cell? ⟨w.heap.size, 7, none⟩ = some (.int .i64 x.spec.prio)) := Lib.hid (fun wx hz' => by
              have hz := (bel_drew1 w6).trans (hz'.mono (bel_drew1 w6).size)
              exact ⟨keep_cell BW.out.lt BW.out.c0 hz, keep_cell BW.out.lt BW.out.c1 hz, keep_cell BW.out.lt BW.out.c2 hz, keep_cell BW.out.lt BW.out.c3 hz, keep_cell BW.out.lt BW.out.c4 hz, keep_cell BW.out.lt BW.out.c5 hz, keep_cell BW.out.lt BW.out.c6 hz, keep_cell BW.out.lt BW.out.c7 hz⟩)
            have HD0 := Lib.hid (bel_drew1 w6)
            have HBB : Hid (Below w6.drew.heap.size w6.drew (w6.alloc (.cells #[.int .i64 0, .slice none 0 0, .int .i64 0, .int .i64 0] 41)).drew) := Lib.hid ((Below.refl w6.drew.heap.size w6.drew).alloc (Nat.le_refl _) (.cells #[.int .i64 0, .slice none 0 0, .int .i64 0, .int .i64 0] 41))
            have BZ : Hid (BoxH (w6.alloc (.cells #[.int .i64 0, .slice none 0 0, .int .i64 0, .int .i64 0] 41)).drew w6.heap.size hd0 none 0 0) := Lib.hid ((boxH_new w6 hd0 none 0 0).next (bel_drew1 _))
            have HG1 := Lib.hid (HG.out.next HD0.out)
            have HG2 := Lib.hid (HG1.out.next HBB.out)
            have HGE : w6.drew.heap.size ≤ w6.heap.size := Nat.le_refl _
            have S1 := Lib.hid (HKEEP.out _ (Below.refl _ _))
            have S2 := Lib.hid (HKEEP.out _ HBB.out)
            go_region_held3 (fun w' => w'.cell? ⟨w.heap.size, 0, none⟩ = some (.int .i64 x.id) ∧ w'.cell? ⟨w.heap.size, 1, none⟩ = some (.int .i64 x.spec.nodes) ∧ w'.cell? ⟨w.heap.size, 2, none⟩ = some (.int .i64 x.spec.cores) ∧ w'.cell? ⟨w.heap.size, 3, none⟩ = some (.int .i64 x.spec.gpus) ∧ w'.cell? ⟨w.heap.size, 4, none⟩ = some (.string x.spec.tag) ∧ w'.cell? ⟨w.heap.size, 5, none⟩ = some (.bool x.spec.whole) ∧ w'.cell? ⟨w.heap.size, 6, none⟩ = some (.int .i64 x.spec.long) ∧ w'.cell? ⟨w.heap.size, 7, none⟩ = some (.int .i64 x.spec.prio))
              (first | with_reducible exact S1.out | with_reducible exact S2.out | with_reducible exact S3.out | with_reducible exact S4.out | with_reducible exact S5.out | with_reducible exact S6.out | fail)
              (first | (go_at_call 18; (with_reducible refine (HENDW.out _ HG1.out).mono ?_); rintro e w7 ⟨rfl, hb⟩; have HY := Lib.hid hb; have S3 := Lib.hid (HKEEP.out _ HY.out); have S6 := Lib.hid (HKEEP.out _ (HY.out.alloc HY.out.size (.cells #[.int .i64 0, .slice none 0 0, .int .i64 0, .int .i64 0] 41))); have S4 := Lib.hid (HKEEP.out _ (HY.out.alloc HY.out.size (.cells #[.int .i64 x.id, .slice A8 m8 c8, .int .i64 ft, .int .i64 ee] 41))); clear hb) | (go_at_call 18; (with_reducible refine (HENDW.out _ HG2.out).mono ?_); rintro e w7 ⟨rfl, hb⟩; have HY := Lib.hid (HBB.out.trans (hb.mono HBB.out.size)); have S3 := Lib.hid (HKEEP.out _ HY.out); have S5 := Lib.hid (HKEEP.out _ (below_store4 (v0 := .int .i64 x.id) (v1 := .slice A8 m8 c8) (v2 := .int .i64 ft) (v3 := .int .i64 ee) HY.out HGE)); have BZ := Lib.hid (BZ.out.next hb); have p0 := BZ.out.c0; have p1 := BZ.out.c1; have p2 := BZ.out.c2; have p3 := BZ.out.c3; have y0 := BZ.out.frozen 0; have y1 := BZ.out.frozen 1; have y2 := BZ.out.frozen 2; have y3 := BZ.out.frozen 3; clear hb) | fail)
            · have HBX := Lib.hid (boxH_new w7 ⟨x.id, fl, ft, ee⟩ A8 m8 c8)
              have HBW := Lib.hid (HD0.out.trans ((HY.out.alloc HY.out.size (.cells #[.int .i64 x.id, .slice A8 m8 c8, .int .i64 ft, .int .i64 ee] 41)).mono HD0.out.size))
              have HSZ := Lib.hid (Nat.le_trans HD0.out.size HY.out.size)
              go_wp2
              go_meet
              exact ⟨_, rfl, HSZ.out, HBX.out, HBW.out⟩
            · have HBX := Lib.hid (BZ.out.storeP4 ⟨x.id, fl, ft, ee⟩ A8 m8 c8)
              have HBW := Lib.hid (HD0.out.trans ((below_store4 (v0 := .int .i64 x.id) (v1 := .slice A8 m8 c8) (v2 := .int .i64 ft) (v3 := .int .i64 ee) HY.out HGE).mono HD0.out.size))
              go_wp2
              go_meet
              exact ⟨_, rfl, Nat.le_refl _, HBX.out, HBW.out⟩
          case rest =>
            obtain ⟨hb, rfl, hbge, hbox, hbel⟩ := hcut
            have HBX := Lib.hid hbox
            replace RA := Lib.hid (RA.out.next hbel)
            replace RB := Lib.hid (RB.out.next hbel)
            replace HH8 := Lib.hid (HH8.out.next hbel)
            replace HB := Lib.hid (HB.out.trans (hbel.mono HB.out.size))
            clear hbox hbge hbel
            have q0 := HBX.out.c0
            have q1 := HBX.out.c1
            have q2 := HBX.out.c2
            have q3 := HBX.out.c3
            have hb := Below.alloc (Below.refl wc.heap.size wc) (Nat.le_refl _) (.cells #[.int .i64 x.id, .slice A8 m8 c8, .int .i64 ft, .int .i64 ee] 41)
            have LT := Lib.hid (held_lit1 HH8.out)
            replace RA := Lib.hid (RA.out.next hb)
            replace HB := Lib.hid (HB.out.trans (hb.mono HB.out.size))
            clear hb
            go_wp2_with fail
            refine (sameT_b RA.out LT.out (sameT_self _)).mono ?_
            rintro e w20 ⟨rfl, hb⟩
            replace HB := Lib.hid (HB.out.trans (hb.mono HB.out.size))
            clear hb q0 q1 q2 q3
            go_wp2
            go_ret
            exact ⟨rfl, HB.out⟩
      · have HNF : ¬ firstAtS g use l x.spec t u = t := fun h => hn (E1.out.1.symm.trans h)
        have dft : (ft != t) = true := bne_iff_ne.2 hn
        have dfe : (ft == t) = false := beq_eq_false_iff_ne.2 hn
        cases th with
        | true =>
          have hth : hasT l x.id = true := hth0
          have hp3 := P3.out.symm.trans (alone_there HMAY.out HB1.out (.inr (.inl rfl)) hth)
          obtain ⟨ha, hka, hea⟩ : a = [] ∧ ka = [] ∧ ea = 7 := by
            have h1 := congrArg Prod.fst hp3
            have h2 := congrArg (fun z => z.2.1) hp3
            have h3 := congrArg (fun z => z.2.2) hp3
            exact ⟨h1, h2, h3⟩
          clear hp3 P3
          subst ha hka hea
          clear hth hth0 HNF hn
          go_wp2
          go_ret
          exact ⟨rfl, HB.out⟩
        | false =>
          have hth : hasT l x.id = false := hth0
          have hp3 := P3.out.symm.trans (alone_kept HMAY.out HL30.out HB1.out hth HNF (.inl rfl))
          obtain ⟨ha, hka, hea⟩ : a = [] ∧ ka = [heldW g use l x t u] ∧ ea = 0 := by
            have h1 := congrArg Prod.fst hp3
            have h2 := congrArg (fun z => z.2.1) hp3
            have h3 := congrArg (fun z => z.2.2) hp3
            exact ⟨h1, h2, h3⟩
          clear hp3 P3
          rw [HHW.out] at hka
          subst ha hka hea
          clear hth hth0 HNF hn
          have HENDW := Lib.hid (HEW0.out rfl)
          have HFJ := HFI.out rfl
          have HH8 : Hid (HAsk w6 A8 m8 c8 ⟨x.id, fl, ft, ee⟩) := Lib.hid ⟨R8.out, N8.out, C8.out, by have h1 := HFJ.2.2.2; rw [HM8.out] at h1; unfold maxLen; omega, HXI.out, HFJ.1, HFJ.2.1, HFJ.2.2.1⟩
          clear HFJ
          go_upto_region 16 with fail
          go_cut [28] (fun hv wx => ∃ hb : Nat, hv = .pointer (some ⟨hb, 0, none⟩) ∧ w6.heap.size ≤ hb ∧ BoxH wx hb ⟨x.id, fl, ft, ee⟩ A8 m8 c8 ∧ Below w6.heap.size w6 wx)
          case first =>
            have HKEEP : Hid (∀ wx, Below w6.drew.heap.size w6.drew wx → wx.cell? ⟨w.heap.size, 0, none⟩ = some (.int .i64 x.id) ∧ wx.cell? ⟨w.heap.size, 1, none⟩ = some (.int .i64 x.spec.nodes) ∧ wx.cell? ⟨w.heap.size, 2, none⟩ = some (.int .i64 x.spec.cores) ∧ wx.cell? ⟨w.heap.size, 3, none⟩ = some (.int .i64 x.spec.gpus) ∧ wx.cell? ⟨w.heap.size, 4, none⟩ = some (.string x.spec.tag) ∧ wx.cell? ⟨w.heap.size, 5, none⟩ = some (.bool x.spec.whole) ∧ wx.cell? ⟨w.heap.size, 6, none⟩ = some (.int .i64 x.spec.long) ∧ wx.cell? ⟨w.heap.size, 7, none⟩ = some (.int .i64 x.spec.prio)) := Lib.hid (fun wx hz' => by
              have hz := (bel_drew1 w6).trans (hz'.mono (bel_drew1 w6).size)
              exact ⟨keep_cell BW.out.lt BW.out.c0 hz, keep_cell BW.out.lt BW.out.c1 hz, keep_cell BW.out.lt BW.out.c2 hz, keep_cell BW.out.lt BW.out.c3 hz, keep_cell BW.out.lt BW.out.c4 hz, keep_cell BW.out.lt BW.out.c5 hz, keep_cell BW.out.lt BW.out.c6 hz, keep_cell BW.out.lt BW.out.c7 hz⟩)
            have HD0 := Lib.hid (bel_drew1 w6)
            have HBB : Hid (Below w6.drew.heap.size w6.drew (w6.alloc (.cells #[.int .i64 0, .slice none 0 0, .int .i64 0, .int .i64 0] 41)).drew) := Lib.hid ((Below.refl w6.drew.heap.size w6.drew).alloc (Nat.le_refl _) (.cells #[.int .i64 0, .slice none 0 0, .int .i64 0, .int .i64 0] 41))
            have BZ : Hid (BoxH (w6.alloc (.cells #[.int .i64 0, .slice none 0 0, .int .i64 0, .int .i64 0] 41)).drew w6.heap.size hd0 none 0 0) := Lib.hid ((boxH_new w6 hd0 none 0 0).next (bel_drew1 _))
            have HG1 := Lib.hid (HG.out.next HD0.out)
            have HG2 := Lib.hid (HG1.out.next HBB.out)
            have HGE : w6.drew.heap.size ≤ w6.heap.size := Nat.le_refl _
            have S1 := Lib.hid (HKEEP.out _ (Below.refl _ _))
            have S2 := Lib.hid (HKEEP.out _ HBB.out)
            go_region_held3 (fun w' => w'.cell? ⟨w.heap.size, 0, none⟩ = some (.int .i64 x.id) ∧ w'.cell? ⟨w.heap.size, 1, none⟩ = some (.int .i64 x.spec.nodes) ∧ w'.cell? ⟨w.heap.size, 2, none⟩ = some (.int .i64 x.spec.cores) ∧ w'.cell? ⟨w.heap.size, 3, none⟩ = some (.int .i64 x.spec.gpus) ∧ w'.cell? ⟨w.heap.size, 4, none⟩ = some (.string x.spec.tag) ∧ w'.cell? ⟨w.heap.size, 5, none⟩ = some (.bool x.spec.whole) ∧ w'.cell? ⟨w.heap.size, 6, none⟩ = some (.int .i64 x.spec.long) ∧ w'.cell? ⟨w.heap.size, 7, none⟩ = some (.int .i64 x.spec.prio))
              (first | with_reducible exact S1.out | with_reducible exact S2.out | with_reducible exact S3.out | with_reducible exact S4.out | with_reducible exact S5.out | with_reducible exact S6.out | fail)
              (first | (go_at_call 18; (with_reducible refine (HENDW.out _ HG1.out).mono ?_); rintro e w7 ⟨rfl, hb⟩; have HY := Lib.hid hb; have S3 := Lib.hid (HKEEP.out _ HY.out); have S6 := Lib.hid (HKEEP.out _ (HY.out.alloc HY.out.size (.cells #[.int .i64 0, .slice none 0 0, .int .i64 0, .int .i64 0] 41))); have S4 := Lib.hid (HKEEP.out _ (HY.out.alloc HY.out.size (.cells #[.int .i64 x.id, .slice A8 m8 c8, .int .i64 ft, .int .i64 ee] 41))); clear hb) | (go_at_call 18; (with_reducible refine (HENDW.out _ HG2.out).mono ?_); rintro e w7 ⟨rfl, hb⟩; have HY := Lib.hid (HBB.out.trans (hb.mono HBB.out.size)); have S3 := Lib.hid (HKEEP.out _ HY.out); have S5 := Lib.hid (HKEEP.out _ (below_store4 (v0 := .int .i64 x.id) (v1 := .slice A8 m8 c8) (v2 := .int .i64 ft) (v3 := .int .i64 ee) HY.out HGE)); have BZ := Lib.hid (BZ.out.next hb); have p0 := BZ.out.c0; have p1 := BZ.out.c1; have p2 := BZ.out.c2; have p3 := BZ.out.c3; have y0 := BZ.out.frozen 0; have y1 := BZ.out.frozen 1; have y2 := BZ.out.frozen 2; have y3 := BZ.out.frozen 3; clear hb) | fail)
            · have HBX := Lib.hid (boxH_new w7 ⟨x.id, fl, ft, ee⟩ A8 m8 c8)
              have HBW := Lib.hid (HD0.out.trans ((HY.out.alloc HY.out.size (.cells #[.int .i64 x.id, .slice A8 m8 c8, .int .i64 ft, .int .i64 ee] 41)).mono HD0.out.size))
              have HSZ := Lib.hid (Nat.le_trans HD0.out.size HY.out.size)
              go_wp2
              go_meet
              exact ⟨_, rfl, HSZ.out, HBX.out, HBW.out⟩
            · have HBX := Lib.hid (BZ.out.storeP4 ⟨x.id, fl, ft, ee⟩ A8 m8 c8)
              have HBW := Lib.hid (HD0.out.trans ((below_store4 (v0 := .int .i64 x.id) (v1 := .slice A8 m8 c8) (v2 := .int .i64 ft) (v3 := .int .i64 ee) HY.out HGE).mono HD0.out.size))
              go_wp2
              go_meet
              exact ⟨_, rfl, Nat.le_refl _, HBX.out, HBW.out⟩
          case rest =>
            obtain ⟨hb, rfl, hbge, hbox, hbel⟩ := hcut
            have HBX := Lib.hid hbox
            replace RA := Lib.hid (RA.out.next hbel)
            replace RB := Lib.hid (RB.out.next hbel)
            replace HH8 := Lib.hid (HH8.out.next hbel)
            replace HB := Lib.hid (HB.out.trans (hbel.mono HB.out.size))
            clear hbox hbge hbel
            have q0 := HBX.out.c0
            have q1 := HBX.out.c1
            have q2 := HBX.out.c2
            have q3 := HBX.out.c3
            have hb := Below.alloc (Below.refl wc.heap.size wc) (Nat.le_refl _) (.cells #[.int .i64 x.id, .slice A8 m8 c8, .int .i64 ft, .int .i64 ee] 41)
            have LT := Lib.hid (held_lit1 HH8.out)
            replace RB := Lib.hid (RB.out.next hb)
            replace HB := Lib.hid (HB.out.trans (hb.mono HB.out.size))
            clear hb
            go_wp2_with fail
            refine (sameT_b RB.out LT.out (sameT_self _)).mono ?_
            rintro e w20 ⟨rfl, hb⟩
            replace HB := Lib.hid (HB.out.trans (hb.mono HB.out.size))
            clear hb q0 q1 q2 q3
            go_wp2
            go_ret
            exact ⟨rfl, HB.out⟩

end Go.Proofs.YtchogijdkagiiaaGreatDoor
