/- The reference's Spec of layer 8 (bailiwickref08): what it puts of any spec. -/
import Derived.Test.YtlpogkcfjbabaaaMg19
import Derived.Test.YtlpogkcfjbabaaaMg21
import Derived.Test.YtlpogkcfjbabaaaMg03
namespace Go.Proofs.Ytlpogkcfjbabaaa
open Go.RowKit

set_option maxRecDepth 100000 in
set_option maxHeartbeats 8000000 in
theorem refPutSpec_any (s : Sp) (w : World) (hs : SAsk s) :
    Calls Try.prog 10 #[.agg #[.int .i64 s.nodes, .int .i64 s.cores, .int .i64 s.gpus, .string s.tag, .bool s.whole, .int .i64 s.long, .int .i64 s.prio]] w (BPost (ptSpec s).1 (ptSpec s).2 w) := by
  obtain ⟨i0, hi0, hz0, hz1, hz2⟩ := info_parts byte_info
  have HS := Lib.hid hs
  clear hs
  obtain ⟨W, hW⟩ : ∃ W, W = w.alloc (spO s) := ⟨_, rfl⟩
  have BX0 : Hid (BoxS W w.heap.size s) := Lib.hid (by rw [hW]; exact box_new w s)
  have BW : Hid (Below w.heap.size w W) := Lib.hid (by rw [hW]; exact (Below.refl _ _).alloc (Nat.le_refl _) _)
  unfold spO at hW
  cases hr : rightS s with
  | false =>
    have e0 : ptSpec s = ([], 1) := by unfold ptSpec; rw [if_neg (by rw [hr]; simp)]
    rw [e0]
    have HR := Lib.hid hr
    clear hr e0
    go_enter Try.func10, Try.ntmps10
    go_wp2_with fail
    rw [← hW]
    refine (refRightS_b HS.out HR.out).mono ?_
    rintro e w1 ⟨rfl, hb1⟩
    have HB1 := Lib.hid (BW.out.trans (hb1.mono BW.out.size))
    clear hb1
    go_wp2
    go_ret2
    exact bpost_nil HB1.out
  | true =>
    have e0 : ptSpec s = (specB s, 0) := by unfold ptSpec; rw [if_pos hr]
    rw [e0]
    obtain ⟨q0, q1, q2, q3, q4, q5, q6⟩ := rightS_is hr
    obtain ⟨sb1, sb2⟩ := sign_back q6
    have qt := tagB_size q0
    have HR := Lib.hid hr
    obtain ⟨n1, hn1⟩ : ∃ n : Nat, s.nodes = (n : Int) := ⟨s.nodes.toNat, by omega⟩
    obtain ⟨n2, hn2⟩ : ∃ n : Nat, s.cores = (n : Int) := ⟨s.cores.toNat, by omega⟩
    obtain ⟨n3, hn3⟩ : ∃ n : Nat, s.gpus = (n : Int) := ⟨s.gpus.toNat, by omega⟩
    obtain ⟨n4, hn4⟩ : ∃ n : Nat, s.long = (n : Int) := ⟨s.long.toNat, by omega⟩
    obtain ⟨sn, hsn⟩ : ∃ n, signN s.prio = n := ⟨_, rfl⟩
    have hk1 : n1 ≤ 64 := by omega
    have hk2 : n2 ≤ 64 := by omega
    have hk3 : n3 ≤ 64 := by omega
    have hk4 : n4 ≤ 1099511627776 := by omega
    have hk5 : sn ≤ 2000 := by omega
    have hk6 : s.tag.size ≤ 16 := qt
    have hp1 : -1000 ≤ s.prio := q6.1
    have hp2 : s.prio ≤ 1000 := q6.2
    have htl : s.tag.data.toList.length = s.tag.size := by rw [Array.length_toList]; rfl
    have L1 := numB_len (n := n1) (by omega)
    have L2 := numB_len (n := n2) (by omega)
    have L3 := numB_len (n := n3) (by omega)
    have L4 := numB_len (n := s.tag.size) (by omega)
    have L5 := numB_len (n := n4) (by omega)
    have L6 := numB_len (n := sn) (by omega)
    have LL := Lib.hid (And.intro L1 (And.intro L2 (And.intro L3 (And.intro L4 (And.intro L5 (And.intro L6 (And.intro htl qt)))))))
    have hsp : Hid (specB s = 1 :: (numB n1 ++ (numB n2 ++ (numB n3 ++ (numB s.tag.size ++ (s.tag.data.toList ++ ((if s.whole = true then 1 else 0) :: (numB n4 ++ numB sn)))))))) := Lib.hid (by
      unfold specB; rw [hn1, hn2, hn3, hn4, hsn]; rfl)
    have N1 := Lib.hid hn1
    have N2 := Lib.hid hn2
    have N3 := Lib.hid hn3
    have N4 := Lib.hid hn4
    have N5 : Hid ((s.prio < 0 → -2 * s.prio - 1 = (sn : Int)) ∧ (¬ s.prio < 0 → 2 * s.prio = (sn : Int))) := Lib.hid (by
      unfold signN at hsn
      constructor
      · intro h; rw [if_pos h] at hsn; omega
      · intro h; rw [if_neg h] at hsn; omega)
    clear hr e0 q0 q1 q2 q3 q4 q5 q6 sb1 sb2 qt hn1 hn2 hn3 hn4 hsn L1 L2 L3 L4 L5 L6 htl
    go_enter Try.func10, Try.ntmps10
    go_wp2_with fail
    rw [← hW]
    refine (refRightS_b HS.out HR.out).mono ?_
    rintro e w1 ⟨rfl, hb1⟩
    have HB1 := Lib.hid (BW.out.trans (hb1.mono BW.out.size))
    have BXW := Lib.hid (BX0.out.next hb1)
    clear hb1 BX0
    have HO1 : Hid (ON EB 1 5 w1 (.slice (some ⟨w1.heap.size, 0, none⟩) 1 1) [1] (w1.alloc (.cells #[.int .u8 1] 5))) := Lib.hid (onb_one (t := 5) w1 1 (by omega))
    have BX1 := Lib.hid (BXW.out.alloc (.cells #[.int .u8 1] 5))
    have c := BX1.out.c0
    rw [N1.out] at c
    go_wp2_with fail
    refine (refNum_any n1 _ (by omega)).mono ?_
    rintro e u1 ⟨v1, rfl, hv⟩
    clear c
    obtain ⟨A1, a1, rfl, hnil1, hcap1⟩ := hv.form
    have HV1 := Lib.hid (hv.reads eb_steady (by omega) rfl)
    have HP1 := Lib.hid (HO1.out.next eb_steady hv.below)
    clear hv
    go_wp2_with (at_builtin; refine wpList_append_RB rfl (.tmp 9) (.tmp 13) 28 5 rfl HP1.out i0 Try.underlying28 hi0 hz0 hz1 hz2 rfl _ A1 _ a1 rfl HV1.out hnil1 (by have := LL.out; simp only [List.length_cons, List.length_nil]; omega) ?_; intro o2 y2 hON; refine Hid.out ?_)
    refine Lib.hid ?_
    have HO2 := Lib.hid hON
    have BX2 := Lib.hid (BXW.out.next hON.below)
    clear hON
    have c := BX2.out.c1
    rw [N2.out] at c
    go_wp2_with fail
    refine (refNum_any n2 _ (by omega)).mono ?_
    rintro e u2 ⟨v2, rfl, hv⟩
    clear c
    obtain ⟨A2, a2, rfl, hnil2, hcap2⟩ := hv.form
    have HV2 := Lib.hid (hv.reads eb_steady (by omega) rfl)
    have HP2 := Lib.hid (HO2.out.next eb_steady hv.below)
    clear hv
    go_wp2_with (at_builtin; refine wpList_append_RB rfl (.tmp 15) (.tmp 19) 28 5 rfl HP2.out i0 Try.underlying28 hi0 hz0 hz1 hz2 rfl _ A2 _ a2 rfl HV2.out hnil2 (by have := LL.out; simp only [List.length_append, List.length_cons, List.length_nil]; omega) ?_; intro o3 y3 hON; refine Hid.out ?_)
    refine Lib.hid ?_
    have HO3 := Lib.hid hON
    have BX3 := Lib.hid (BXW.out.next hON.below)
    clear hON
    have c := BX3.out.c2
    rw [N3.out] at c
    go_wp2_with fail
    refine (refNum_any n3 _ (by omega)).mono ?_
    rintro e u3 ⟨v3, rfl, hv⟩
    clear c
    obtain ⟨A3, a3, rfl, hnil3, hcap3⟩ := hv.form
    have HV3 := Lib.hid (hv.reads eb_steady (by omega) rfl)
    have HP3 := Lib.hid (HO3.out.next eb_steady hv.below)
    clear hv
    go_wp2_with (at_builtin; refine wpList_append_RB rfl (.tmp 21) (.tmp 25) 28 5 rfl HP3.out i0 Try.underlying28 hi0 hz0 hz1 hz2 rfl _ A3 _ a3 rfl HV3.out hnil3 (by have := LL.out; simp only [List.length_append, List.length_cons, List.length_nil]; omega) ?_; intro o4 y4 hON; refine Hid.out ?_)
    refine Lib.hid ?_
    have HO4 := Lib.hid hON
    have BX4 := Lib.hid (BXW.out.next hON.below)
    clear hON
    have c := BX4.out.c3
    go_wp2_with fail
    refine (refNum_any s.tag.size _ (by omega)).mono ?_
    rintro e u4 ⟨v4, rfl, hv⟩
    clear c
    obtain ⟨A4, a4, rfl, hnil4, hcap4⟩ := hv.form
    have HV4 := Lib.hid (hv.reads eb_steady (by omega) rfl)
    have HP4 := Lib.hid (HO4.out.next eb_steady hv.below)
    clear hv
    go_wp2_with (at_builtin; refine wpList_append_RB rfl (.tmp 27) (.tmp 32) 28 5 rfl HP4.out i0 Try.underlying28 hi0 hz0 hz1 hz2 rfl _ A4 _ a4 rfl HV4.out hnil4 (by have := LL.out; simp only [List.length_append, List.length_cons, List.length_nil]; omega) ?_; intro o5 y5 hON; refine Hid.out ?_)
    refine Lib.hid ?_
    have HO5 := Lib.hid hON
    have BX5 := Lib.hid (BXW.out.next hON.below)
    clear hON
    have c := BX5.out.c3
    go_wp2_with (with_reducible refine wpList_bytes_of rfl _ _ 5 _ rfl Try.underlying9 Try.underlying28 Try.underlying5 _ rfl ?_; intro c5 u5 hb5 hr5; refine Hid.out ?_)
    refine Lib.hid ?_
    have HV5 := Lib.hid hr5
    have HP5 := Lib.hid (HO5.out.next eb_steady hb5)
    clear c hb5 hr5
    go_wp2_with (at_builtin; refine wpList_append_RB rfl (.tmp 34) (.tmp 37) 28 5 rfl HP5.out i0 Try.underlying28 hi0 hz0 hz1 hz2 rfl _ _ _ c5 rfl HV5.out (fun h => by cases h) (by have := LL.out; simp only [List.length_append, List.length_cons, List.length_nil]; omega) ?_; intro o6 y6 hON; refine Hid.out ?_)
    refine Lib.hid ?_
    have HO6 := Lib.hid hON
    have BX6 := Lib.hid (BXW.out.next hON.below)
    clear hON
    have c := BX6.out.c4
    cases hwh : s.whole with
    | true =>
      rw [hwh] at c
      have HWH := Lib.hid hwh
      clear hwh
      have HP6 : Hid (ON EB 1 5 w1 o6 _ (y6.alloc (.cells #[.int .u8 1] 5))) := Lib.hid (HO6.out.next eb_steady ((Below.refl _ _).alloc (Nat.le_refl _) _))
      have HV6 : Hid (RB (y6.alloc (.cells #[.int .u8 1] 5)) (y6.alloc (.cells #[.int .u8 1] 5)).heap.size (some ⟨y6.heap.size, 0, none⟩) 1 [1]) := Lib.hid ((onb_one (t := 5) y6 1 (by omega)).reads eb_steady (by omega) rfl)
      go_wp2_with (at_builtin; refine wpList_append_RB rfl (.tmp 41) (.tmp 42) 28 5 rfl HP6.out i0 Try.underlying28 hi0 hz0 hz1 hz2 rfl _ _ _ 1 rfl HV6.out (fun h => by cases h) (by have := LL.out; simp only [List.length_append, List.length_cons, List.length_nil]; omega) ?_; intro o7 y7 hON; refine Hid.out ?_)
      refine Lib.hid ?_
      have HO7 := Lib.hid hON
      have BX7 := Lib.hid (BXW.out.next hON.below)
      clear hON
      clear c
      have c := BX7.out.c5
      rw [N4.out] at c
      go_wp2_with fail
      refine (refNum_any n4 _ (by omega)).mono ?_
      rintro e u7 ⟨v7, rfl, hv⟩
      clear c
      obtain ⟨A7, a7, rfl, hnil7, hcap7⟩ := hv.form
      have HV7 := Lib.hid (hv.reads eb_steady (by omega) rfl)
      have HP7 := Lib.hid (HO7.out.next eb_steady hv.below)
      clear hv
      go_wp2_with (at_builtin; refine wpList_append_RB rfl (.tmp 47) (.tmp 51) 28 5 rfl HP7.out i0 Try.underlying28 hi0 hz0 hz1 hz2 rfl _ A7 _ a7 rfl HV7.out hnil7 (by have := LL.out; simp only [List.length_append, List.length_cons, List.length_nil]; omega) ?_; intro o8 y8 hON; refine Hid.out ?_)
      refine Lib.hid ?_
      have HO8 := Lib.hid hON
      have BX8 := Lib.hid (BXW.out.next hON.below)
      clear hON
      have c := BX8.out.c6
      by_cases hneg : s.prio < 0
      · have k0 := N5.out.1 hneg
        have k1 : -(2 * s.prio) - 1 = (sn : Int) := by omega
        have hd : decide (s.prio < 0) = true := by simpa using hneg
        clear k0 hneg
        go_wp2_with fail
        refine (refNum_any sn _ (by omega)).mono ?_
        rintro e u8 ⟨v8, rfl, hv⟩
        clear c k1 hd
        obtain ⟨A8, a8, rfl, hnil8, hcap8⟩ := hv.form
        have HV8 := Lib.hid (hv.reads eb_steady (by omega) rfl)
        have HP8 := Lib.hid (HO8.out.next eb_steady hv.below)
        clear hv
        go_wp2_with (at_builtin; refine wpList_append_RB rfl (.tmp 56) (.tmp 63) 28 5 rfl HP8.out i0 Try.underlying28 hi0 hz0 hz1 hz2 rfl _ A8 _ a8 rfl HV8.out hnil8 (by have := LL.out; simp only [List.length_append, List.length_cons, List.length_nil]; omega) ?_; intro o9 y9 hON; refine Hid.out ?_)
        refine Lib.hid ?_
        have HO9 := Lib.hid hON
        clear hON
        go_wp2
        go_ret2
        exact bpost_on HO9.out (by rw [hsp.out, HWH.out]; simp) HB1.out
      · have k1 := N5.out.2 (Int.not_lt.1 hneg)
        have hd : decide (s.prio < 0) = false := by simpa using hneg
        clear hneg
        go_wp2_with fail
        refine (refNum_any sn _ (by omega)).mono ?_
        rintro e u8 ⟨v8, rfl, hv⟩
        clear c k1 hd
        obtain ⟨A8, a8, rfl, hnil8, hcap8⟩ := hv.form
        have HV8 := Lib.hid (hv.reads eb_steady (by omega) rfl)
        have HP8 := Lib.hid (HO8.out.next eb_steady hv.below)
        clear hv
        go_wp2_with (at_builtin; refine wpList_append_RB rfl (.tmp 65) (.tmp 70) 28 5 rfl HP8.out i0 Try.underlying28 hi0 hz0 hz1 hz2 rfl _ A8 _ a8 rfl HV8.out hnil8 (by have := LL.out; simp only [List.length_append, List.length_cons, List.length_nil]; omega) ?_; intro o9 y9 hON; refine Hid.out ?_)
        refine Lib.hid ?_
        have HO9 := Lib.hid hON
        clear hON
        go_wp2
        go_ret2
        exact bpost_on HO9.out (by rw [hsp.out, HWH.out]; simp) HB1.out
    | false =>
      rw [hwh] at c
      have HWH := Lib.hid hwh
      clear hwh
      have HP6 : Hid (ON EB 1 5 w1 o6 _ (y6.alloc (.cells #[.int .u8 0] 5))) := Lib.hid (HO6.out.next eb_steady ((Below.refl _ _).alloc (Nat.le_refl _) _))
      have HV6 : Hid (RB (y6.alloc (.cells #[.int .u8 0] 5)) (y6.alloc (.cells #[.int .u8 0] 5)).heap.size (some ⟨y6.heap.size, 0, none⟩) 1 [0]) := Lib.hid ((onb_one (t := 5) y6 0 (by omega)).reads eb_steady (by omega) rfl)
      go_wp2_with (at_builtin; refine wpList_append_RB rfl (.tmp 44) (.tmp 45) 28 5 rfl HP6.out i0 Try.underlying28 hi0 hz0 hz1 hz2 rfl _ _ _ 1 rfl HV6.out (fun h => by cases h) (by have := LL.out; simp only [List.length_append, List.length_cons, List.length_nil]; omega) ?_; intro o7 y7 hON; refine Hid.out ?_)
      refine Lib.hid ?_
      have HO7 := Lib.hid hON
      have BX7 := Lib.hid (BXW.out.next hON.below)
      clear hON
      clear c
      have c := BX7.out.c5
      rw [N4.out] at c
      go_wp2_with fail
      refine (refNum_any n4 _ (by omega)).mono ?_
      rintro e u7 ⟨v7, rfl, hv⟩
      clear c
      obtain ⟨A7, a7, rfl, hnil7, hcap7⟩ := hv.form
      have HV7 := Lib.hid (hv.reads eb_steady (by omega) rfl)
      have HP7 := Lib.hid (HO7.out.next eb_steady hv.below)
      clear hv
      go_wp2_with (at_builtin; refine wpList_append_RB rfl (.tmp 47) (.tmp 51) 28 5 rfl HP7.out i0 Try.underlying28 hi0 hz0 hz1 hz2 rfl _ A7 _ a7 rfl HV7.out hnil7 (by have := LL.out; simp only [List.length_append, List.length_cons, List.length_nil]; omega) ?_; intro o8 y8 hON; refine Hid.out ?_)
      refine Lib.hid ?_
      have HO8 := Lib.hid hON
      have BX8 := Lib.hid (BXW.out.next hON.below)
      clear hON
      have c := BX8.out.c6
      by_cases hneg : s.prio < 0
      · have k0 := N5.out.1 hneg
        have k1 : -(2 * s.prio) - 1 = (sn : Int) := by omega
        have hd : decide (s.prio < 0) = true := by simpa using hneg
        clear k0 hneg
        go_wp2_with fail
        refine (refNum_any sn _ (by omega)).mono ?_
        rintro e u8 ⟨v8, rfl, hv⟩
        clear c k1 hd
        obtain ⟨A8, a8, rfl, hnil8, hcap8⟩ := hv.form
        have HV8 := Lib.hid (hv.reads eb_steady (by omega) rfl)
        have HP8 := Lib.hid (HO8.out.next eb_steady hv.below)
        clear hv
        go_wp2_with (at_builtin; refine wpList_append_RB rfl (.tmp 56) (.tmp 63) 28 5 rfl HP8.out i0 Try.underlying28 hi0 hz0 hz1 hz2 rfl _ A8 _ a8 rfl HV8.out hnil8 (by have := LL.out; simp only [List.length_append, List.length_cons, List.length_nil]; omega) ?_; intro o9 y9 hON; refine Hid.out ?_)
        refine Lib.hid ?_
        have HO9 := Lib.hid hON
        clear hON
        go_wp2
        go_ret2
        exact bpost_on HO9.out (by rw [hsp.out, HWH.out]; simp) HB1.out
      · have k1 := N5.out.2 (Int.not_lt.1 hneg)
        have hd : decide (s.prio < 0) = false := by simpa using hneg
        clear hneg
        go_wp2_with fail
        refine (refNum_any sn _ (by omega)).mono ?_
        rintro e u8 ⟨v8, rfl, hv⟩
        clear c k1 hd
        obtain ⟨A8, a8, rfl, hnil8, hcap8⟩ := hv.form
        have HV8 := Lib.hid (hv.reads eb_steady (by omega) rfl)
        have HP8 := Lib.hid (HO8.out.next eb_steady hv.below)
        clear hv
        go_wp2_with (at_builtin; refine wpList_append_RB rfl (.tmp 65) (.tmp 70) 28 5 rfl HP8.out i0 Try.underlying28 hi0 hz0 hz1 hz2 rfl _ A8 _ a8 rfl HV8.out hnil8 (by have := LL.out; simp only [List.length_append, List.length_cons, List.length_nil]; omega) ?_; intro o9 y9 hON; refine Hid.out ?_)
        refine Lib.hid ?_
        have HO9 := Lib.hid hON
        clear hON
        go_wp2
        go_ret2
        exact bpost_on HO9.out (by rw [hsp.out, HWH.out]; simp) HB1.out

end Go.Proofs.Ytlpogkcfjbabaaa
