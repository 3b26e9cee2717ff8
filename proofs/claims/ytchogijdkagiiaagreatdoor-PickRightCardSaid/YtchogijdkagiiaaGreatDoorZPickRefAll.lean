/- The reference's Pick and Later of layer 14. Written by gen/gen_pick.py. -/
import Derived.Test.YtchogijdkagiiaaGreatDoorZPickRef1
import Derived.Test.YtchogijdkagiiaaGreatDoorZPickRef2
import Derived.Test.YtchogijdkagiiaaGreatDoorZPickRef3
namespace Go.Proofs.YtchogijdkagiiaaGreatDoor
open Go.RowKit

theorem firstw_eq {P : Program} {f : FuncId} {args : Array Value} {w : World} {x y : Int} {r : List Int} {a b : Bool} (h : Calls P f args w (FTPost x r a w)) (e1 : x = y) (e2 : a = b) : Calls P f args w (FTPost y r b w) := by
  subst e1 e2; exact h
set_option maxRecDepth 100000 in
set_option maxHeartbeats 8000000 in
theorem refPick_no {A A2 A3 A4 : Option Addr} {n c n2 c2 n3 c3 n4 c4 : Nat} {l : Tb} {t u p d : Int} {w : World} (hl : TAsk w A3 n3 c3 l) (hm : ¬ PickMay p d l) : Calls Tryz.prog 13 #[.slice A n c, .slice A2 n2 c2, .slice A3 n3 c3, .slice A4 n4 c4, .int .i64 t, .int .i64 u, .int .i64 p, .int .i64 d] w (PKPost [] [] 1 w) := by
  have HB := Lib.hid (Below.refl w.heap.size w)
  have TA := Lib.hid hl
  unfold PickMay at hm
  by_cases hp : p = 1 ∨ p = 2 ∨ p = 3
  rotate_left
  · clear hl hm
    have z1 : (p != 1) = true := bne_iff_ne.2 (by omega)
    have z2 : (p != 2) = true := bne_iff_ne.2 (by omega)
    have z3 : (p != 3) = true := bne_iff_ne.2 (by omega)
    clear hp
    go_enter Tryz.func13, Tryz.ntmps13
    go_wp2
    go_ret3
    exact ⟨⟨none, 0, none, 0, rfl, ⟨RT.nil, fun _ => rfl, Nat.le_refl _⟩, ⟨RT.nil, fun _ => rfl, Nat.le_refl _⟩⟩, HB.out⟩
  by_cases h0 : d < 0
  · have d0 : decide (d < 0) = true := decide_eq_true h0
    clear hl hm
    rcases hp with rfl | rfl | rfl
    all_goals
      go_enter Tryz.func13, Tryz.ntmps13
      go_wp2
      go_ret3
      exact ⟨⟨none, 0, none, 0, rfl, ⟨RT.nil, fun _ => rfl, Nat.le_refl _⟩, ⟨RT.nil, fun _ => rfl, Nat.le_refl _⟩⟩, HB.out⟩
  by_cases h1 : 64 < d
  · have d0 : decide (d < 0) = false := decide_eq_false h0
    have d1 : decide (64 < d) = true := decide_eq_true h1
    clear hl hm
    rcases hp with rfl | rfl | rfl
    all_goals
      go_enter Tryz.func13, Tryz.ntmps13
      go_wp2
      go_ret3
      exact ⟨⟨none, 0, none, 0, rfl, ⟨RT.nil, fun _ => rfl, Nat.le_refl _⟩, ⟨RT.nil, fun _ => rfl, Nat.le_refl _⟩⟩, HB.out⟩
  have d0 : decide (d < 0) = false := decide_eq_false h0
  have d1 : decide (64 < d) = false := decide_eq_false h1
  have HRR : Hid (rightT l = false) := Lib.hid (by
    cases hr : rightT l with
    | false => rfl
    | true => exact absurd ⟨hp, by omega, by omega, hr⟩ hm)
  clear hl hm
  rcases hp with rfl | rfl | rfl
  all_goals
    go_enter Tryz.func13, Tryz.ntmps13
    go_wp2_with fail
    refine (refRightT_b TA.out.reads TA.out.few HRR.out).mono ?_
    rintro e w1 ⟨rfl, hb⟩
    have HB1 := Lib.hid hb
    clear hb
    go_wp2
    go_ret3
    exact ⟨⟨none, 0, none, 0, rfl, ⟨RT.nil, fun _ => rfl, Nat.le_refl _⟩, ⟨RT.nil, fun _ => rfl, Nat.le_refl _⟩⟩, HB1.out⟩
theorem refPick_any {A A2 A3 A4 : Option Addr} {n c n2 c2 n3 c3 n4 c4 : Nat} {g : Gr} {use : List Int} {l : Tb} {ws : List Wn} {t u p d : Int} {w : World} (hg : GAsk w A n c g) (hu : LAsk w A2 n2 c2 use) (hl : TAsk w A3 n3 c3 l) (hf : FewT l) (hw : WnAsk w A4 n4 c4 ws) (hn60 : n ≤ 60) (hn34 : n3 + n4 ≤ 60) (ht : I64 t) (hv : I64 u) (hG : Glob w) : Calls Tryz.prog 13 #[.slice A n c, .slice A2 n2 c2, .slice A3 n3 c3, .slice A4 n4 c4, .int .i64 t, .int .i64 u, .int .i64 p, .int .i64 d] w (PKPost (pickA g use l ws t u p d).1 (pickA g use l ws t u p d).2.1 (pickA g use l ws t u p d).2.2 w) := by
  by_cases hm : PickMay p d l
  · rcases hm.1 with e | e | e
    all_goals subst e
    · exact refPick_1 hg hu hl hf hw hn60 hn34 ht hv hG hm
    · exact refPick_2 hg hu hl hf hw hn60 hn34 ht hv hG hm
    · exact refPick_3 hg hu hl hf hw hn60 hn34 ht hv hG hm
  · have e : pickA g use l ws t u p d = ([], [], 1) := if_neg hm
    rw [e]
    exact refPick_no hl hm
set_option maxRecDepth 100000 in
set_option maxHeartbeats 8000000 in
theorem refPickLater_any {A A2 A3 A4 : Option Addr} {n c n2 c2 n3 c3 n4 c4 : Nat} {g : Gr} {use : List Int} {l l2 : Tb} {s : Sp} {t u : Int} {w : World} (hg : GAsk w A n c g) (hu : LAsk w A2 n2 c2 use) (hl : TAsk w A3 n3 c3 l) (hl2 : TAsk w A4 n4 c4 l2) (hs : SAsk s) (ht : I64 t) (hv : I64 u) (hG : Glob w) : Calls Tryz.prog 16 #[.slice A n c, .slice A2 n2 c2, .slice A3 n3 c3, .slice A4 n4 c4, .agg #[.int .i64 s.nodes, .int .i64 s.cores, .int .i64 s.gpus, .string s.tag, .bool s.whole, .int .i64 s.long, .int .i64 s.prio], .int .i64 t, .int .i64 u] w fun e w' => e = .returned (.bool (laterA g use l l2 s t u)) ∧ Below w.heap.size w w' := by
  have hba : Below w.heap.size w (w.alloc (.cells #[.int .i64 s.nodes, .int .i64 s.cores, .int .i64 s.gpus, .string s.tag, .bool s.whole, .int .i64 s.long, .int .i64 s.prio] 27)) := (Below.refl _ _).alloc (Nat.le_refl _) _
  have HB := Lib.hid hba
  have HG := Lib.hid (hG.next hba)
  have GA := Lib.hid (hg.next hba)
  have UA := Lib.hid (hu.next hba)
  have TA := Lib.hid (hl.next hba)
  have TB := Lib.hid (hl2.next hba)
  have BS : Hid (BoxS (w.alloc (.cells #[.int .i64 s.nodes, .int .i64 s.cores, .int .i64 s.gpus, .string s.tag, .bool s.whole, .int .i64 s.long, .int .i64 s.prio] 27)) w.heap.size s) := Lib.hid (box_new w s)
  have HS := Lib.hid hs
  have HT := Lib.hid ht
  have HV := Lib.hid hv
  obtain ⟨x1, k1⟩ : ∃ r, firstAtS g use l s t u = r := ⟨_, rfl⟩
  obtain ⟨b1, k3⟩ : ∃ b, firstBS g use l s t u = b := ⟨_, rfl⟩
  obtain ⟨x2, k4⟩ : ∃ r, firstAtS g use l2 s t u = r := ⟨_, rfl⟩
  obtain ⟨b2, k6⟩ : ∃ b, firstBS g use l2 s t u = b := ⟨_, rfl⟩
  have hla : laterA g use l l2 s t u = (b1 && (!b2 || decide (x1 < x2))) := by unfold laterA; rw [k1, k3, k4, k6]
  rw [hla]
  have K1 := Lib.hid k1
  have K3 := Lib.hid k3
  have K4 := Lib.hid k4
  have K6 := Lib.hid k6
  clear hba hG hg hu hl hl2 hs ht hv k1 k3 k4 k6 hla
  cases b1 with
  | false =>
    go_enter Tryz.func16, Tryz.ntmps16
    have q0 := BS.out.c0
    have q1 := BS.out.c1
    have q2 := BS.out.c2
    have q3 := BS.out.c3
    have q4 := BS.out.c4
    have q5 := BS.out.c5
    have q6 := BS.out.c6
    go_wp2_with fail
    refine (firstw_eq (refFirstS_w GA.out UA.out TA.out HS.out HT.out HV.out) K1.out K3.out).mono ?_
    rintro e w1 ⟨⟨A31, c31, rfl, hr3, hn3, hc3⟩, hb⟩
    replace HB := Lib.hid (HB.out.trans (hb.mono HB.out.size))
    replace HG := Lib.hid (HG.out.next hb)
    replace GA := Lib.hid (GA.out.next hb)
    replace UA := Lib.hid (UA.out.next hb)
    replace TA := Lib.hid (TA.out.next hb)
    replace TB := Lib.hid (TB.out.next hb)
    replace BS := Lib.hid (BS.out.next hb)
    clear hb
    clear hr3 hn3 hc3
    clear q0 q1 q2 q3 q4 q5 q6

    have q0 := BS.out.c0
    have q1 := BS.out.c1
    have q2 := BS.out.c2
    have q3 := BS.out.c3
    have q4 := BS.out.c4
    have q5 := BS.out.c5
    have q6 := BS.out.c6
    go_wp2_with fail
    refine (firstw_eq (refFirstS_w GA.out UA.out TB.out HS.out HT.out HV.out) K4.out K6.out).mono ?_
    rintro e w2 ⟨⟨A41, c41, rfl, hr4, hn4, hc4⟩, hb⟩
    replace HB := Lib.hid (HB.out.trans (hb.mono HB.out.size))
    replace HG := Lib.hid (HG.out.next hb)
    replace GA := Lib.hid (GA.out.next hb)
    replace UA := Lib.hid (UA.out.next hb)
    replace TA := Lib.hid (TA.out.next hb)
    replace TB := Lib.hid (TB.out.next hb)
    replace BS := Lib.hid (BS.out.next hb)
    clear hb
    clear hr4 hn4 hc4
    clear q0 q1 q2 q3 q4 q5 q6

    go_wp2
    go_ret
    exact ⟨rfl, HB.out⟩
  | true =>
    cases b2 with
    | false =>
      go_enter Tryz.func16, Tryz.ntmps16
      have q0 := BS.out.c0
      have q1 := BS.out.c1
      have q2 := BS.out.c2
      have q3 := BS.out.c3
      have q4 := BS.out.c4
      have q5 := BS.out.c5
      have q6 := BS.out.c6
      go_wp2_with fail
      refine (firstw_eq (refFirstS_w GA.out UA.out TA.out HS.out HT.out HV.out) K1.out K3.out).mono ?_
      rintro e w1 ⟨⟨A31, c31, rfl, hr3, hn3, hc3⟩, hb⟩
      replace HB := Lib.hid (HB.out.trans (hb.mono HB.out.size))
      replace HG := Lib.hid (HG.out.next hb)
      replace GA := Lib.hid (GA.out.next hb)
      replace UA := Lib.hid (UA.out.next hb)
      replace TA := Lib.hid (TA.out.next hb)
      replace TB := Lib.hid (TB.out.next hb)
      replace BS := Lib.hid (BS.out.next hb)
      clear hb
      clear hr3 hn3 hc3
      clear q0 q1 q2 q3 q4 q5 q6

      have q0 := BS.out.c0
      have q1 := BS.out.c1
      have q2 := BS.out.c2
      have q3 := BS.out.c3
      have q4 := BS.out.c4
      have q5 := BS.out.c5
      have q6 := BS.out.c6
      go_wp2_with fail
      refine (firstw_eq (refFirstS_w GA.out UA.out TB.out HS.out HT.out HV.out) K4.out K6.out).mono ?_
      rintro e w2 ⟨⟨A41, c41, rfl, hr4, hn4, hc4⟩, hb⟩
      replace HB := Lib.hid (HB.out.trans (hb.mono HB.out.size))
      replace HG := Lib.hid (HG.out.next hb)
      replace GA := Lib.hid (GA.out.next hb)
      replace UA := Lib.hid (UA.out.next hb)
      replace TA := Lib.hid (TA.out.next hb)
      replace TB := Lib.hid (TB.out.next hb)
      replace BS := Lib.hid (BS.out.next hb)
      clear hb
      clear hr4 hn4 hc4
      clear q0 q1 q2 q3 q4 q5 q6

      go_wp2
      go_ret
      exact ⟨rfl, HB.out⟩
    | true =>
      cases hd : decide (x1 < x2) with
      | true =>
        have hd' := of_decide_eq_true hd
        go_enter Tryz.func16, Tryz.ntmps16
        have q0 := BS.out.c0
        have q1 := BS.out.c1
        have q2 := BS.out.c2
        have q3 := BS.out.c3
        have q4 := BS.out.c4
        have q5 := BS.out.c5
        have q6 := BS.out.c6
        go_wp2_with fail
        refine (firstw_eq (refFirstS_w GA.out UA.out TA.out HS.out HT.out HV.out) K1.out K3.out).mono ?_
        rintro e w1 ⟨⟨A31, c31, rfl, hr3, hn3, hc3⟩, hb⟩
        replace HB := Lib.hid (HB.out.trans (hb.mono HB.out.size))
        replace HG := Lib.hid (HG.out.next hb)
        replace GA := Lib.hid (GA.out.next hb)
        replace UA := Lib.hid (UA.out.next hb)
        replace TA := Lib.hid (TA.out.next hb)
        replace TB := Lib.hid (TB.out.next hb)
        replace BS := Lib.hid (BS.out.next hb)
        clear hb
        clear hr3 hn3 hc3
        clear q0 q1 q2 q3 q4 q5 q6

        have q0 := BS.out.c0
        have q1 := BS.out.c1
        have q2 := BS.out.c2
        have q3 := BS.out.c3
        have q4 := BS.out.c4
        have q5 := BS.out.c5
        have q6 := BS.out.c6
        go_wp2_with fail
        refine (firstw_eq (refFirstS_w GA.out UA.out TB.out HS.out HT.out HV.out) K4.out K6.out).mono ?_
        rintro e w2 ⟨⟨A41, c41, rfl, hr4, hn4, hc4⟩, hb⟩
        replace HB := Lib.hid (HB.out.trans (hb.mono HB.out.size))
        replace HG := Lib.hid (HG.out.next hb)
        replace GA := Lib.hid (GA.out.next hb)
        replace UA := Lib.hid (UA.out.next hb)
        replace TA := Lib.hid (TA.out.next hb)
        replace TB := Lib.hid (TB.out.next hb)
        replace BS := Lib.hid (BS.out.next hb)
        clear hb
        clear hr4 hn4 hc4
        clear q0 q1 q2 q3 q4 q5 q6

        go_wp2
        go_ret
        exact ⟨rfl, HB.out⟩
      | false =>
        have hd' := of_decide_eq_false hd
        go_enter Tryz.func16, Tryz.ntmps16
        have q0 := BS.out.c0
        have q1 := BS.out.c1
        have q2 := BS.out.c2
        have q3 := BS.out.c3
        have q4 := BS.out.c4
        have q5 := BS.out.c5
        have q6 := BS.out.c6
        go_wp2_with fail
        refine (firstw_eq (refFirstS_w GA.out UA.out TA.out HS.out HT.out HV.out) K1.out K3.out).mono ?_
        rintro e w1 ⟨⟨A31, c31, rfl, hr3, hn3, hc3⟩, hb⟩
        replace HB := Lib.hid (HB.out.trans (hb.mono HB.out.size))
        replace HG := Lib.hid (HG.out.next hb)
        replace GA := Lib.hid (GA.out.next hb)
        replace UA := Lib.hid (UA.out.next hb)
        replace TA := Lib.hid (TA.out.next hb)
        replace TB := Lib.hid (TB.out.next hb)
        replace BS := Lib.hid (BS.out.next hb)
        clear hb
        clear hr3 hn3 hc3
        clear q0 q1 q2 q3 q4 q5 q6

        have q0 := BS.out.c0
        have q1 := BS.out.c1
        have q2 := BS.out.c2
        have q3 := BS.out.c3
        have q4 := BS.out.c4
        have q5 := BS.out.c5
        have q6 := BS.out.c6
        go_wp2_with fail
        refine (firstw_eq (refFirstS_w GA.out UA.out TB.out HS.out HT.out HV.out) K4.out K6.out).mono ?_
        rintro e w2 ⟨⟨A41, c41, rfl, hr4, hn4, hc4⟩, hb⟩
        replace HB := Lib.hid (HB.out.trans (hb.mono HB.out.size))
        replace HG := Lib.hid (HG.out.next hb)
        replace GA := Lib.hid (GA.out.next hb)
        replace UA := Lib.hid (UA.out.next hb)
        replace TA := Lib.hid (TA.out.next hb)
        replace TB := Lib.hid (TB.out.next hb)
        replace BS := Lib.hid (BS.out.next hb)
        clear hb
        clear hr4 hn4 hc4
        clear q0 q1 q2 q3 q4 q5 q6

        go_wp2
        go_ret
        exact ⟨rfl, HB.out⟩

end Go.Proofs.YtchogijdkagiiaaGreatDoor
