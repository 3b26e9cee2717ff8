/- The reference's First of layer 13. Written by gen/gen_slot.py. -/
import Derived.Test.YtchogijdkagiiaaGreatDoorZSlotRefA
namespace Go.Proofs.YtchogijdkagiiaaGreatDoor
open Go.RowKit

set_option maxRecDepth 100000 in
set_option maxHeartbeats 8000000 in
theorem refFirstS_any {A A2 A3 : Option Addr} {n c n2 c2 n3 c3 : Nat} {g : Gr} {use : List Int} {l : Tb} {s : Sp} {t u : Int} {w : World} (hg : GAsk w A n c g) (hu : LAsk w A2 n2 c2 use) (hl : TAsk w A3 n3 c3 l) (hs : SAsk s) (ht : I64 t) (hv : I64 u) : Calls Tryz.prog 29 #[.slice A n c, .slice A2 n2 c2, .slice A3 n3 c3, .agg #[.int .i64 s.nodes, .int .i64 s.cores, .int .i64 s.gpus, .string s.tag, .bool s.whole, .int .i64 s.long, .int .i64 s.prio], .int .i64 t, .int .i64 u] w (FTPostN (firstAtS g use l s t u) (firstLS g use l s t u) (firstBS g use l s t u) w) := by
  have hba : Below w.heap.size w (w.alloc (.cells #[.int .i64 s.nodes, .int .i64 s.cores, .int .i64 s.gpus, .string s.tag, .bool s.whole, .int .i64 s.long, .int .i64 s.prio] 27)) := (Below.refl _ _).alloc (Nat.le_refl _) _
  have HB := Lib.hid hba
  have GA := Lib.hid (hg.next hba)
  have UA := Lib.hid (hu.next hba)
  have TA := Lib.hid (hl.next hba)
  have BS : Hid (BoxS (w.alloc (.cells #[.int .i64 s.nodes, .int .i64 s.cores, .int .i64 s.gpus, .string s.tag, .bool s.whole, .int .i64 s.long, .int .i64 s.prio] 27)) w.heap.size s) := Lib.hid (box_new w s)
  have HS := Lib.hid hs
  have HT := Lib.hid ht
  have HV := Lib.hid hv
  have hn3 := hl.few
  unfold maxLen at hn3
  have HTL := Lib.hid hl.reads.len
  have HTI : Hid (∀ j, j < n3 → I64 (l.getD j hd0).to) := Lib.hid (fun j hj => by
    obtain ⟨_, _, _, _, _, _, _, _, _, _, _, hh⟩ := hl.reads.one hj
    exact hh.int.2.2.1)
  have dtt : decide (t < t) = false := decide_eq_false (by omega)
  obtain ⟨r1, hr1⟩ : ∃ r, firstAtS g use l s t u = r := ⟨_, rfl⟩
  obtain ⟨r2, hr2⟩ : ∃ r, firstLS g use l s t u = r := ⟨_, rfl⟩
  obtain ⟨r3, hr3⟩ : ∃ r, firstBS g use l s t u = r := ⟨_, rfl⟩
  have HFI := Lib.hid (show firstAtS g use l s t u = r1 ∧ firstLS g use l s t u = r2 ∧ firstBS g use l s t u = r3 from ⟨hr1, hr2, hr3⟩)
  rw [hr1, hr2, hr3]
  clear hg hu hl hs ht hv hr1 hr2 hr3
  obtain ⟨W0, hW0⟩ : ∃ W, (w.alloc (.cells #[.int .i64 s.nodes, .int .i64 s.cores, .int .i64 s.gpus, .string s.tag, .bool s.whole, .int .i64 s.long, .int .i64 s.prio] 27)) = W := ⟨_, rfl⟩
  rw [hW0] at GA UA TA BS hba HB
  have HW0 := Lib.hid hW0
  clear hba
  go_enter Tryz.func29, Tryz.ntmps29
  go_wp2
  try rw [hW0]
  clear hW0
  go_loopw [15, 16, 17] (fun bv gv iv wr => ∃ (best : Int) (A0 : Option Addr) (c0 : Nat), bv = .int .i64 best ∧ gv = .slice A0 (gotK g use l s u best).length c0 ∧ ((iv = .int .i64 (-1) ∧ best = -1) ∨ ∃ j : Nat, j ≤ n3 ∧ iv = .int .i64 j ∧ BestK g use l s t u j best) ∧ RIN w.heap.size wr A0 (gotK g use l s u best).length (gotK g use l s u best) ∧ (A0 = none → c0 = 0) ∧ (gotK g use l s u best).length ≤ c0 ∧ Below W0.heap.size W0 wr) (fun _ _ iv _ => ((n3 : Int) - intOf iv).toNat)
  case atStart => exact ⟨-1, none, 0, rfl, rfl, .inl ⟨rfl, rfl⟩, RIN.nil, fun _ => rfl, Nat.le_refl _, Below.refl _ _⟩
  case round =>
    obtain ⟨best, A0, c0, rfl, rfl, hcase, hrd, hn0, hc0, hbel⟩ := hrel
    have HRD := Lib.hid hrd
    have HN0 := Lib.hid hn0
    have HC0 := Lib.hid hc0
    have HB4 := Lib.hid hbel
    have GA4 := Lib.hid (GA.out.next hbel)
    have UA4 := Lib.hid (UA.out.next hbel)
    have TA4 := Lib.hid (TA.out.next hbel)
    have BS4 := Lib.hid (BS.out.next hbel)
    clear hrd hn0 hc0 hbel
    rcases hcase with ⟨rfl, hb1⟩ | ⟨j, hj, rfl, hbk⟩
    · subst hb1
      have hnn : (-1 : Int) < (n3 : Int) := by omega
      have hnd : decide ((-1 : Int) < (n3 : Int)) = true := decide_eq_true hnn
      obtain ⟨best, hbest⟩ : ∃ b : Int, b = -1 := ⟨-1, rfl⟩
      have HBE := Lib.hid hbest
      clear hbest
      have HC := Lib.hid (refAtS_any (t := t) GA4.out UA4.out TA4.out HS.out HT.out HV.out)
      cases hf : decide (FitsS g use l s u t) with
      | true =>
        rw [hf] at HC
        have HFT := Lib.hid (of_decide_eq_true hf)
        have hT0 : 0 ≤ t := HFT.out.1.1
        have HGK : Hid (gotK g use l s u t = gotS g use l s u t) := Lib.hid (by unfold gotK; rw [if_neg (by omega)])
        have HN : Hid (BestK g use l s t u 0 t) := Lib.hid (best_from HFT.out)
        clear hf hT0
        have q0 := BS4.out.c0
        have q1 := BS4.out.c1
        have q2 := BS4.out.c2
        have q3 := BS4.out.c3
        have q4 := BS4.out.c4
        have q5 := BS4.out.c5
        have q6 := BS4.out.c6
        go_wp2_with fail
        refine HC.out.mono ?_
        rintro e w7 ⟨⟨A8, c8, rfl, hr8, hn8, hc8⟩, hb⟩
        rw [← HGK.out] at hr8 hc8 ⊢
        have HBN := Lib.hid (HB4.out.trans (hb.mono HB4.out.size))
        have HR8 := Lib.hid (hr8.mono (Nat.le_trans HB.out.size HB4.out.size))
        have HN8 := Lib.hid hn8
        have HC8 := Lib.hid hc8
        clear hb hr8 hn8 hc8 HC
        clear q0 q1 q2 q3 q4 q5 q6
        go_wp2
        go_roundw
        case rel => exact ⟨t, A8, c8, rfl, rfl, .inr ⟨0, by omega, by go_num, HN.out⟩, HR8.out, HN8.out, HC8.out, HBN.out⟩
        case measure => simp [intOf] <;> omega
      | false =>
        rw [hf] at HC
        have HFT := Lib.hid (of_decide_eq_false hf)
        have HN : Hid (BestK g use l s t u 0 (-1)) := Lib.hid (best_no HFT.out)
        clear hf
        have q0 := BS4.out.c0
        have q1 := BS4.out.c1
        have q2 := BS4.out.c2
        have q3 := BS4.out.c3
        have q4 := BS4.out.c4
        have q5 := BS4.out.c5
        have q6 := BS4.out.c6
        go_wp2_with fail
        refine HC.out.mono ?_
        rintro e w7 ⟨⟨A8, c8, rfl, _, _, _⟩, hb⟩
        have HBN := Lib.hid (HB4.out.trans (hb.mono HB4.out.size))
        have HR8 := Lib.hid (HRD.out.next hb)
        clear hb HC
        clear q0 q1 q2 q3 q4 q5 q6
        go_wp2
        go_roundw
        case rel => exact ⟨-1, A0, c0, rfl, rfl, .inr ⟨0, by omega, by go_num, HN.out⟩, HR8.out, HN0.out, HC0.out, HBN.out⟩
        case measure => simp [intOf] <;> omega
    · have HBK := Lib.hid hbk
      clear hbk
      by_cases hlt : j < n3
      · have hjz : (0 : Int) ≤ (j : Int) := by omega
        obtain ⟨b, off, A4, m4, c4, rfl, hb1, k0, k1, k2, k3, hh⟩ := TA4.out.reads.one hlt
        have HXI := Lib.hid (HTI.out j hlt)
        have HK1 := Lib.hid (fun f1 f2 f3 => best_kfits HBK.out f1 f2 f3)
        have HK2 := Lib.hid (fun f1 => best_skip HBK.out f1)
        obtain ⟨x, hx⟩ : ∃ x, (l.getD j hd0).to = x := ⟨_, rfl⟩
        rw [hx] at k3 HXI HK1 HK2
        clear hh hx k0 k1 k2
        by_cases p1 : x < t
        · have d1 : decide (x < t) = true := decide_eq_true p1
          have HN := Lib.hid (HK2.out (.inl p1))
          clear p1
          go_wp2
          go_roundw
          case rel => exact ⟨best, A0, c0, rfl, rfl, .inr ⟨j + 1, by omega, by go_num, HN.out⟩, HRD.out, HN0.out, HC0.out, HB4.out⟩
          case measure => simp [intOf] <;> omega
        · have d1 : decide (x < t) = false := decide_eq_false p1
          by_cases p2 : 0 ≤ best
          · have d2 : decide (0 ≤ best) = true := decide_eq_true p2
            by_cases p3 : best ≤ x
            · have d3 : decide (best ≤ x) = true := decide_eq_true p3
              have HN := Lib.hid (HK2.out (.inr (.inl ⟨p2, p3⟩)))
              clear p1 p2 p3
              go_wp2
              go_roundw
              case rel => exact ⟨best, A0, c0, rfl, rfl, .inr ⟨j + 1, by omega, by go_num, HN.out⟩, HRD.out, HN0.out, HC0.out, HB4.out⟩
              case measure => simp [intOf] <;> omega
            · have d3 : decide (best ≤ x) = false := decide_eq_false p3
              have HC := Lib.hid (refAtS_any (t := x) GA4.out UA4.out TA4.out HS.out HXI.out HV.out)
              cases hf : decide (FitsS g use l s u x) with
              | true =>
                rw [hf] at HC
                have HFT := Lib.hid (of_decide_eq_true hf)
                have hT0 : 0 ≤ x := HFT.out.1.1
                have HGK : Hid (gotK g use l s u x = gotS g use l s u x) := Lib.hid (by unfold gotK; rw [if_neg (by omega)])
                have HN : Hid (BestK g use l s t u (j + 1) x) := Lib.hid (HK1.out HFT.out (by omega) (.inr (by omega)))
                clear hf hT0 p1 p2 p3
                have q0 := BS4.out.c0
                have q1 := BS4.out.c1
                have q2 := BS4.out.c2
                have q3 := BS4.out.c3
                have q4 := BS4.out.c4
                have q5 := BS4.out.c5
                have q6 := BS4.out.c6
                go_wp2_with fail
                refine HC.out.mono ?_
                rintro e w7 ⟨⟨A8, c8, rfl, hr8, hn8, hc8⟩, hb⟩
                rw [← HGK.out] at hr8 hc8 ⊢
                have HBN := Lib.hid (HB4.out.trans (hb.mono HB4.out.size))
                have HR8 := Lib.hid (hr8.mono (Nat.le_trans HB.out.size HB4.out.size))
                have HN8 := Lib.hid hn8
                have HC8 := Lib.hid hc8
                clear hb hr8 hn8 hc8 HC
                clear q0 q1 q2 q3 q4 q5 q6
                go_wp2
                go_roundw
                case rel => exact ⟨x, A8, c8, rfl, rfl, .inr ⟨(j + 1), by omega, by go_num, HN.out⟩, HR8.out, HN8.out, HC8.out, HBN.out⟩
                case measure => simp [intOf] <;> omega
              | false =>
                rw [hf] at HC
                have HFT := Lib.hid (of_decide_eq_false hf)
                have HN : Hid (BestK g use l s t u (j + 1) best) := Lib.hid (HK2.out (.inr (.inr HFT.out)))
                clear hf p1 p2 p3
                have q0 := BS4.out.c0
                have q1 := BS4.out.c1
                have q2 := BS4.out.c2
                have q3 := BS4.out.c3
                have q4 := BS4.out.c4
                have q5 := BS4.out.c5
                have q6 := BS4.out.c6
                go_wp2_with fail
                refine HC.out.mono ?_
                rintro e w7 ⟨⟨A8, c8, rfl, _, _, _⟩, hb⟩
                have HBN := Lib.hid (HB4.out.trans (hb.mono HB4.out.size))
                have HR8 := Lib.hid (HRD.out.next hb)
                clear hb HC
                clear q0 q1 q2 q3 q4 q5 q6
                go_wp2
                go_roundw
                case rel => exact ⟨best, A0, c0, rfl, rfl, .inr ⟨(j + 1), by omega, by go_num, HN.out⟩, HR8.out, HN0.out, HC0.out, HBN.out⟩
                case measure => simp [intOf] <;> omega
          · have d2 : decide (0 ≤ best) = false := decide_eq_false p2
            have HC := Lib.hid (refAtS_any (t := x) GA4.out UA4.out TA4.out HS.out HXI.out HV.out)
            cases hf : decide (FitsS g use l s u x) with
            | true =>
              rw [hf] at HC
              have HFT := Lib.hid (of_decide_eq_true hf)
              have hT0 : 0 ≤ x := HFT.out.1.1
              have HGK : Hid (gotK g use l s u x = gotS g use l s u x) := Lib.hid (by unfold gotK; rw [if_neg (by omega)])
              have HN : Hid (BestK g use l s t u (j + 1) x) := Lib.hid (HK1.out HFT.out (by omega) (.inl (by omega)))
              clear hf hT0 p1 p2
              have q0 := BS4.out.c0
              have q1 := BS4.out.c1
              have q2 := BS4.out.c2
              have q3 := BS4.out.c3
              have q4 := BS4.out.c4
              have q5 := BS4.out.c5
              have q6 := BS4.out.c6
              go_wp2_with fail
              refine HC.out.mono ?_
              rintro e w7 ⟨⟨A8, c8, rfl, hr8, hn8, hc8⟩, hb⟩
              rw [← HGK.out] at hr8 hc8 ⊢
              have HBN := Lib.hid (HB4.out.trans (hb.mono HB4.out.size))
              have HR8 := Lib.hid (hr8.mono (Nat.le_trans HB.out.size HB4.out.size))
              have HN8 := Lib.hid hn8
              have HC8 := Lib.hid hc8
              clear hb hr8 hn8 hc8 HC
              clear q0 q1 q2 q3 q4 q5 q6
              go_wp2
              go_roundw
              case rel => exact ⟨x, A8, c8, rfl, rfl, .inr ⟨(j + 1), by omega, by go_num, HN.out⟩, HR8.out, HN8.out, HC8.out, HBN.out⟩
              case measure => simp [intOf] <;> omega
            | false =>
              rw [hf] at HC
              have HFT := Lib.hid (of_decide_eq_false hf)
              have HN : Hid (BestK g use l s t u (j + 1) best) := Lib.hid (HK2.out (.inr (.inr HFT.out)))
              clear hf p1 p2
              have q0 := BS4.out.c0
              have q1 := BS4.out.c1
              have q2 := BS4.out.c2
              have q3 := BS4.out.c3
              have q4 := BS4.out.c4
              have q5 := BS4.out.c5
              have q6 := BS4.out.c6
              go_wp2_with fail
              refine HC.out.mono ?_
              rintro e w7 ⟨⟨A8, c8, rfl, _, _, _⟩, hb⟩
              have HBN := Lib.hid (HB4.out.trans (hb.mono HB4.out.size))
              have HR8 := Lib.hid (HRD.out.next hb)
              clear hb HC
              clear q0 q1 q2 q3 q4 q5 q6
              go_wp2
              go_roundw
              case rel => exact ⟨best, A0, c0, rfl, rfl, .inr ⟨(j + 1), by omega, by go_num, HN.out⟩, HR8.out, HN0.out, HC0.out, HBN.out⟩
              case measure => simp [intOf] <;> omega
      · obtain rfl : j = n3 := by omega
        by_cases p2 : best < 0
        · have d2 : decide (best < 0) = true := decide_eq_true p2
          have HZ : Hid (r1 = 0 ∧ r2 = [] ∧ r3 = false) := Lib.hid (by
            have h1 := first_none (best_none (by rw [HTL.out]; exact HBK.out) p2)
            rw [HFI.out.1, HFI.out.2.1, HFI.out.2.2] at h1
            exact h1)
          have HBZ : Hid (Below w.heap.size w wr) := Lib.hid (HB.out.trans (HB4.out.mono HB.out.size))
          clear p2
          go_wp2
          go_ret3
          rw [HZ.out.1, HZ.out.2.1, HZ.out.2.2]
          exact ⟨⟨none, 0, rfl, RIN.nil, fun _ => rfl, Nat.le_refl _⟩, HBZ.out⟩
        · have d2 : decide (best < 0) = false := decide_eq_false p2
          have HZ : Hid (r1 = best ∧ r2 = gotK g use l s u best ∧ r3 = true) := Lib.hid (by
            have h1 := first_some (best_some (by rw [HTL.out]; exact HBK.out) p2)
            rw [HFI.out.1, HFI.out.2.1, HFI.out.2.2] at h1
            refine ⟨h1.1, ?_, h1.2.2⟩
            rw [h1.2.1]; unfold gotK; rw [if_neg p2])
          have HBZ : Hid (Below w.heap.size w wr) := Lib.hid (HB.out.trans (HB4.out.mono HB.out.size))
          clear p2
          go_wp2
          go_ret3
          rw [HZ.out.1, HZ.out.2.1, HZ.out.2.2]
          exact ⟨⟨A0, c0, rfl, HRD.out, HN0.out, HC0.out⟩, HBZ.out⟩
theorem refFirstS_w {A A2 A3 : Option Addr} {n c n2 c2 n3 c3 : Nat} {g : Gr} {use : List Int} {l : Tb} {s : Sp} {t u : Int} {w : World} (hg : GAsk w A n c g) (hu : LAsk w A2 n2 c2 use) (hl : TAsk w A3 n3 c3 l) (hs : SAsk s) (ht : I64 t) (hv : I64 u) : Calls Tryz.prog 29 #[.slice A n c, .slice A2 n2 c2, .slice A3 n3 c3, .agg #[.int .i64 s.nodes, .int .i64 s.cores, .int .i64 s.gpus, .string s.tag, .bool s.whole, .int .i64 s.long, .int .i64 s.prio], .int .i64 t, .int .i64 u] w (FTPost (firstAtS g use l s t u) (firstLS g use l s t u) (firstBS g use l s t u) w) := (refFirstS_any hg hu hl hs ht hv).mono fun _ _ h => h.f

end Go.Proofs.YtchogijdkagiiaaGreatDoor
