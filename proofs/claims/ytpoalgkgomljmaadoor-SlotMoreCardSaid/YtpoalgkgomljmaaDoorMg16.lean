/- The program's take of layer 9: what is got in the nodes that are chosen. Written by gen/gen_matchptake.py. The program's functions of layer 9 (match): the list of contracts that the statements' walks lean on, held. Written by gen/gen_matchpok.py. The program's Ends of layer 7 (spec), and what later layers ask of it: Right and Ends. The program's functions of layer 13 keep their contracts. Written by gen/gen_slotp.py. -/
import Derived.Deep.QuietTactic
import Derived.Test.YtpoalgkgomljmaaDoorMg15
import Derived.Deep.RegionHeld3
import Derived.OwnWalk
import Derived.Test.YtpoalgkgomljmaaDoorMg14
import Derived.Test.YtpoalgkgomljmaaDoorMg06
import Derived.Test.YtpoalgkgomljmaaDoorMg07
import Derived.Test.YtpoalgkgomljmaaDoorMg10
import Derived.Test.YtpoalgkgomljmaaDoorMg11
namespace Go.Proofs.YtpoalgkgomljmaaDoor
open Go.RowKit

set_option maxRecDepth 100000 in
set_option maxHeartbeats 4000000 in
theorem take_any (A : Option Addr) (n c : Nat) (A2 : Option Addr) (n2 c2 : Nat) (A3 : Option Addr) (n3 c3 : Nat) (g : Gr) (F : List Int) (s : Sp) (w : World) (hr : RG w w.heap.size A n g) (hg : rightG g = true) (hi : RI w w.heap.size A2 n2 F) (hF : rightB F = true) (hs : rightS s = true) (hi3 : RI w w.heap.size A3 n3 (numsF (selP g F s) n)) :
    Calls Tryd.prog 34 #[.slice A n c, .slice A2 n2 c2, .agg #[.int .i64 s.nodes, .int .i64 s.cores, .int .i64 s.gpus, .string s.tag, .bool s.whole, .int .i64 s.long, .int .i64 s.prio], .slice A3 n3 c3] w (IPost (numsF (findP g F s) n) w) := by
  obtain ⟨i0, hi0, hz0, hz1, hz2⟩ := kinds_parts kinds_info
  have hl := hr.len
  have HG := Lib.hid hg
  have HGR := Lib.hid (rightG_is hg)
  have HS := Lib.hid hs
  have hn256 : n ≤ 256 := by have := HGR.out.few; omega
  have hset := set_numsF hF
  have hn2 : n2 ≤ 256 := by rw [← hi.1, hset]; exact numsF_len _ _
  have hn3 : n3 ≤ 256 := by rw [← hi3.1]; exact Nat.le_trans (numsF_len _ _) hn256
  obtain ⟨W, hW⟩ : ∃ W, W = w.alloc (spO s) := ⟨_, rfl⟩
  have hb0 : Below w.heap.size w W := by rw [hW]; exact (Below.refl _ _).alloc (Nat.le_refl _) _
  have BX : Hid (BoxS W w.heap.size s) := Lib.hid (by rw [hW]; exact box_new w s)
  have HB0 := Lib.hid hb0
  have HWZ : Hid (W.heap.size = w.heap.size + 1) := Lib.hid (by rw [hW, World.size_alloc])
  have HRB : Hid (∀ wr, Below w.heap.size w wr → RG wr wr.heap.size A n g ∧ RI wr w.heap.size A2 n2 F ∧ RI wr w.heap.size A3 n3 (numsF (selP g F s) n)) := Lib.hid (fun wr hb' => ⟨RN.keep eth_steady (hr.below hb') (fun _ _ => rfl) (fun b (hb : b < w.heap.size) => Nat.lt_of_lt_of_le hb hb'.size), hi.below hb', hi3.below hb'⟩)
  have HL := Lib.hid hl
  have HL2 := Lib.hid hi.1
  have HL3 := Lib.hid hi3.1
  have HSET := Lib.hid hset
  unfold spO at hW
  clear hr hi hF hl hset hg hs hi3 hb0
  go_enter Tryd.func34, Tryd.ntmps34
  go_wp2_with (at_make; rw [← hW]; refine wpList_make_full _ rfl _ _ 81 rfl W.heap.size 89 i0 _ 5 Tryd.underlying81 hi0 hz0 hz1 .i64 .i64 _ _ n rfl rfl rfl rfl (by rw [hz2]; omega) (by unfold maxLen; omega) (Nat.le_refl _) ?_; intro w1 hown hgrow; refine Hid.out ?_)
  refine Lib.hid ?_
  have HT := Lib.hid (Tab.made hown (made_kinds n) hgrow)
  clear hown hgrow hW
  obtain ⟨hb, hhb⟩ : ∃ hb, w.heap.size + 1 = hb := ⟨_, rfl⟩
  rw [HWZ.out, hhb] at HT
  rw [hhb]
  clear hhb
  go_wp2
  go_loopw [22] (fun i wr => ∃ k m : Nat, k ≤ n3 ∧ i = .int .i64 k ∧ m ≤ n ∧ (numsF (selP g F s) n).take k = numsF (selP g F s) m ∧ Tab W hb n (firstT g F s m) wr) (fun i _ => n3 - (intOf i).toNat)
  case atStart => exact ⟨0, 0, Nat.zero_le _, rfl, Nat.zero_le _, by simp [numsF], HT.out.ext fun k c _ _ => (first_zero c).symm⟩
  case round =>
    obtain ⟨k, m, hk, rfl, hm, htake, hrel⟩ := hrel
    have HK := Lib.hid hrel
    clear hrel
    by_cases hlt : k < n3
    · obtain ⟨_, _, hI3⟩ := HRB.out wr (HB0.out.trans (HK.out.bel.mono HB0.out.size))
      obtain ⟨x, hmx, hxn, hxk, hxF, hgap, htk⟩ := take_next (by rw [HL3.out]; exact hlt) htake hm
      obtain ⟨b, off, rfl, hbl, hcl⟩ := hI3.one hlt
      rw [hxk] at hcl
      have HTK := Lib.hid htk
      have HXF := Lib.hid hxF
      have HGAP := Lib.hid hgap
      have BXr := Lib.hid (BX.out.next HK.out.bel)
      have q0 := BXr.out.c0
      have q1 := BXr.out.c1
      have q2 := BXr.out.c2
      have q3 := BXr.out.c3
      have q4 := BXr.out.c4
      have q5 := BXr.out.c5
      have q6 := BXr.out.c6
      clear hI3 htake hxk htk hxF hgap hbl
      have hxz : (x : Int) < (n : Int) := by omega
      go_wp2_with fail
      refine (most_any s wr).mono ?_
      rintro e w4 ⟨rfl, hb4⟩
      have HK4 := Lib.hid (HK.out.next hb4)
      have HROW := Lib.hid (HK4.out.row x (mostS s 0) (mostS s 1) (mostS s 2) (mostS s 3) (mostS s 4))
      have p0 := HK4.out.cell (k := x) (c := 0) hxn (by omega)
      have p1 := HK4.out.cell (k := x) (c := 1) hxn (by omega)
      have p2 := HK4.out.cell (k := x) (c := 2) hxn (by omega)
      have p3 := HK4.out.cell (k := x) (c := 3) hxn (by omega)
      have p4 := HK4.out.cell (k := x) (c := 4) hxn (by omega)
      rw [Nat.add_zero] at p0
      have f0 := HK4.out.frozen (x * 5)
      have f1 := HK4.out.frozen (x * 5 + 1)
      have f2 := HK4.out.frozen (x * 5 + 2)
      have f3 := HK4.out.frozen (x * 5 + 3)
      have f4 := HK4.out.frozen (x * 5 + 4)
      unfold mostV
      obtain ⟨m0, hm0⟩ : ∃ y, mostS s 0 = y := ⟨_, rfl⟩
      obtain ⟨u0, hu0⟩ : ∃ y, firstT g F s m x 0 = y := ⟨_, rfl⟩
      rw [hu0] at p0
      obtain ⟨m1, hm1⟩ : ∃ y, mostS s 1 = y := ⟨_, rfl⟩
      obtain ⟨u1, hu1⟩ : ∃ y, firstT g F s m x 1 = y := ⟨_, rfl⟩
      rw [hu1] at p1
      obtain ⟨m2, hm2⟩ : ∃ y, mostS s 2 = y := ⟨_, rfl⟩
      obtain ⟨u2, hu2⟩ : ∃ y, firstT g F s m x 2 = y := ⟨_, rfl⟩
      rw [hu2] at p2
      obtain ⟨m3, hm3⟩ : ∃ y, mostS s 3 = y := ⟨_, rfl⟩
      obtain ⟨u3, hu3⟩ : ∃ y, firstT g F s m x 3 = y := ⟨_, rfl⟩
      rw [hu3] at p3
      obtain ⟨m4, hm4⟩ : ∃ y, mostS s 4 = y := ⟨_, rfl⟩
      obtain ⟨u4, hu4⟩ : ∃ y, firstT g F s m x 4 = y := ⟨_, rfl⟩
      rw [hu4] at p4
      rw [hm0, hm1, hm2, hm3, hm4] at HROW ⊢
      have HMS : Hid (mostS s 0 = m0 ∧ mostS s 1 = m1 ∧ mostS s 2 = m2 ∧ mostS s 3 = m3 ∧ mostS s 4 = m4) := Lib.hid ⟨hm0, hm1, hm2, hm3, hm4⟩
      clear hb4 hm0 hm1 hm2 hm3 hm4 hu0 hu1 hu2 hu3 hu4 hcl q0 q1 q2 q3 q4 q5 q6
      go_wp2
      go_roundw
      case rel => exact ⟨k + 1, x + 1, by omega, by go_num, by omega, HTK.out, HROW.out.ext fun k' c' _ hc' => by
        rw [first_step c' HXF.out hmx HGAP.out]
        obtain ⟨e0, e1, e2, e3, e4⟩ := HMS.out
        rw [← e0, ← e1, ← e2, ← e3, ← e4]
        split
        · rcases (show c' = 0 ∨ c' = 1 ∨ c' = 2 ∨ c' = 3 ∨ c' = 4 by omega) with h | h | h | h | h <;> rw [h] <;> rfl
        · rfl⟩
      case measure => simp [intOf]; omega
    · have hkn : k = n3 := by omega
      subst hkn
      have hend := take_end (p := selP g F s) (n := n) (by rw [← htake, List.take_of_length_le (by rw [HL3.out]; omega)]) hm
      have HT1 : Hid (Tab W hb n (leftT g F s 0) wr) := Lib.hid (HK.out.ext fun k c hk _ => by
        rw [first_end c (by rw [HL.out]; exact hm) (fun y h1 h2 => hend y h1 (by rw [← HL.out]; exact h2)) (by rw [HL.out]; exact hk), left_start HS.out c (by rw [HL.out]; exact hk)])
      clear htake hend
      go_wp2
      go_loopw [12, 34] (fun v i wr => ∃ k m : Nat, k ≤ n2 ∧ i = .int .i64 k ∧ m ≤ 256 ∧ F.take k = numsF (fun j => hasB F (j : Int)) m ∧ TakeR W hb n (leftT g F s m) v (numsF (findP g F s) (min m n)) wr) (fun _ i _ => n2 - (intOf i).toNat)
      case atStart => exact ⟨0, 0, Nat.zero_le _, rfl, Nat.zero_le _, by simp [numsF], by rw [Nat.zero_min]; exact TakeR.start HT1.out⟩
      case round =>
        obtain ⟨k, m, hk, rfl, hm, htake, hrel⟩ := hrel
        have HK := Lib.hid hrel
        clear hrel
        have hbw := HB0.out.trans (HK.out.tab.bel.mono HB0.out.size)
        obtain ⟨hRk, hIk, _⟩ := HRB.out wr hbw
        clear hbw
        by_cases hlt : k < n2
        · have HRk := Lib.hid hRk
          obtain ⟨x, hmx, hx256, hxk, hxF, hgap, htk⟩ := take_next (by rw [← HSET.out, HL2.out]; exact hlt) (by rw [← HSET.out]; exact htake) hm
          rw [← HSET.out] at hxk htk
          obtain ⟨b, off, rfl, _, hcl⟩ := hIk.one hlt
          rw [hxk] at hcl
          have HTK := Lib.hid htk
          have HXF := Lib.hid hxF
          have HGAP := Lib.hid hgap
          have hlen : Hid ((numsF (findP g F s) (min m n)).length ≤ 1000) := Lib.hid (by have := numsF_len (findP g F s) (min m n); omega)
          clear hIk hRk htake hxk htk hxF hgap
          by_cases hxn : x < n
          · have HGAPF : Hid (numsF (findP g F s) x = numsF (findP g F s) (min m n)) := Lib.hid (by
              rw [Nat.min_eq_left (by omega)]
              exact numsF_gap hmx fun y h1 h2 => find_unfree (by rw [HL.out]; omega) (HGAP.out y h1 h2))
            rcases home_is HGR.out (x := x) (by rw [HL.out]; exact hxn) with ⟨j, hj, hh, h2, ho, hd⟩ | ⟨hh, hd⟩
            · have hjn : j < n := by rw [HL.out] at hj; exact hj
              have HH := Lib.hid hh
              have HJ := Lib.hid h2
              have HO := Lib.hid ho
              have HRx := Lib.hid HRk.out
              obtain ⟨b2, off2, rfl, _, hc0, _, _, _⟩ := HRk.out.one hxn
              obtain ⟨kd, hkd⟩ : ∃ kd, gk g x = kd := ⟨_, rfl⟩
              rw [hkd] at hc0 hd
              have HD := Lib.hid hkd
              clear hh h2 ho hkd hj
              rcases hd with h | h | h
              · subst h
                have hct := HK.out.tab.cell (k := j) (c := 2) hjn (by omega)
                have hft := HK.out.tab.frozen (j * 5 + 2)
                have hfind := left_find HG.out HS.out (by rw [HL.out]; exact hxn) HJ.out HO.out (d := 2) HD.out HXF.out
                have hlg : leftT g F s x j 2 = leftT g F s m j 2 := left_gap hmx HGAP.out
                rw [hlg] at hfind
                have hrng := left_range (g := g) (F := F) (m := m) (k := j) HS.out 2
                have hjz : (j : Int) < (n : Int) := by omega
                by_cases hy : 0 < leftT g F s m j 2
                · have HT4 : Hid (∀ q, TakeR W hb n (leftT g F s (x + 1)) _ (numsF (findP g F s) (min m n)) ((wr.drewN q).setCell ⟨hb, j * 5 + 2, none⟩ (.int .i64 (leftT g F s m j 2 - 1)))) := Lib.hid (fun q => ((HK.out.next (bel_drew wr q)).set (by omega) j (leftT g F s m j 2 - 1)).ext fun k c hk _ => by
                    rw [left_take HG.out (by rw [HL.out]; exact hxn) HJ.out HO.out (d := 2) HD.out HXF.out (by rw [hlg]; exact hy) c]
                    unfold upT
                    rw [left_gap hmx HGAP.out, left_gap hmx HGAP.out])
                  have HFI : Hid (numsF (findP g F s) (min (x + 1) n) = numsF (findP g F s) (min m n) ++ [(x : Int)]) := Lib.hid (by
                    rw [Nat.min_eq_left (by omega), numsF_yes (by rw [hfind]; exact decide_eq_true hy), HGAPF.out])
                  have hyd : decide ((0 : Int) < leftT g F s m j 2) = true := decide_eq_true hy
                  obtain ⟨y, hyy⟩ : ∃ y, leftT g F s m j 2 = y := ⟨_, rfl⟩
                  rw [hyy] at hct HT4 hyd hrng hy
                  clear hyy hfind hlg
                  go_wp2_with fail
                  refine (home_b HRx.out hn256 (by omega) HH.out).mono ?_
                  rintro e w4 ⟨rfl, rfl⟩
                  go_wp2
                  go_quiet (fail)
                  go_wp2
                  go_region
                  all_goals go_wp2_with (at_builtin; refine wpList_append_TR rfl (.tmp 71) (.tmp 73) rfl (HT4.out _) rfl _ (by first | rfl | (simp; rfl)) hlen.out ?_; intro v' w5 hR5; refine Hid.out ?_)
                  refine Lib.hid ?_
                  have HR5 := Lib.hid hR5
                  clear hR5
                  go_wp2
                  go_roundw
                  case rel => exact ⟨k + 1, x + 1, by omega, by go_num, by omega, HTK.out, by rw [HFI.out]; exact HR5.out⟩
                  case measure => simp [intOf]; omega
                · have HT4 : Hid (TakeR W hb n (leftT g F s (x + 1)) _ (numsF (findP g F s) (min (x + 1) n)) wr) := Lib.hid (by
                    rw [Nat.min_eq_left (by omega), numsF_no (by rw [hfind]; exact decide_eq_false hy), HGAPF.out]
                    exact HK.out.ext fun k c hk _ => by rw [left_none HG.out (by rw [HL.out]; exact hxn) HJ.out HO.out (d := 2) HD.out (by rw [hlg]; exact hy) c, left_gap hmx HGAP.out])
                  have hyd : decide ((0 : Int) < leftT g F s m j 2) = false := decide_eq_false hy
                  obtain ⟨y, hyy⟩ : ∃ y, leftT g F s m j 2 = y := ⟨_, rfl⟩
                  rw [hyy] at hct hyd hrng
                  clear hyy hfind hlg hy
                  go_wp2_with fail
                  refine (home_b HRx.out hn256 (by omega) HH.out).mono ?_
                  rintro e w4 ⟨rfl, rfl⟩
                  go_wp2
                  go_quiet (fail)
                  go_wp2
                  go_roundw
                  case rel => exact ⟨k + 1, x + 1, by omega, by go_num, by omega, HTK.out, HT4.out.next (bel_drew wr _)⟩
                  case measure => simp [intOf]; omega
              · subst h
                have hct := HK.out.tab.cell (k := j) (c := 3) hjn (by omega)
                have hft := HK.out.tab.frozen (j * 5 + 3)
                have hfind := left_find HG.out HS.out (by rw [HL.out]; exact hxn) HJ.out HO.out (d := 3) HD.out HXF.out
                have hlg : leftT g F s x j 3 = leftT g F s m j 3 := left_gap hmx HGAP.out
                rw [hlg] at hfind
                have hrng := left_range (g := g) (F := F) (m := m) (k := j) HS.out 3
                have hjz : (j : Int) < (n : Int) := by omega
                by_cases hy : 0 < leftT g F s m j 3
                · have HT4 : Hid (∀ q, TakeR W hb n (leftT g F s (x + 1)) _ (numsF (findP g F s) (min m n)) ((wr.drewN q).setCell ⟨hb, j * 5 + 3, none⟩ (.int .i64 (leftT g F s m j 3 - 1)))) := Lib.hid (fun q => ((HK.out.next (bel_drew wr q)).set (by omega) j (leftT g F s m j 3 - 1)).ext fun k c hk _ => by
                    rw [left_take HG.out (by rw [HL.out]; exact hxn) HJ.out HO.out (d := 3) HD.out HXF.out (by rw [hlg]; exact hy) c]
                    unfold upT
                    rw [left_gap hmx HGAP.out, left_gap hmx HGAP.out])
                  have HFI : Hid (numsF (findP g F s) (min (x + 1) n) = numsF (findP g F s) (min m n) ++ [(x : Int)]) := Lib.hid (by
                    rw [Nat.min_eq_left (by omega), numsF_yes (by rw [hfind]; exact decide_eq_true hy), HGAPF.out])
                  have hyd : decide ((0 : Int) < leftT g F s m j 3) = true := decide_eq_true hy
                  obtain ⟨y, hyy⟩ : ∃ y, leftT g F s m j 3 = y := ⟨_, rfl⟩
                  rw [hyy] at hct HT4 hyd hrng hy
                  clear hyy hfind hlg
                  go_wp2_with fail
                  refine (home_b HRx.out hn256 (by omega) HH.out).mono ?_
                  rintro e w4 ⟨rfl, rfl⟩
                  go_wp2
                  go_quiet (fail)
                  go_wp2
                  go_region
                  all_goals go_wp2_with (at_builtin; refine wpList_append_TR rfl (.tmp 71) (.tmp 73) rfl (HT4.out _) rfl _ (by first | rfl | (simp; rfl)) hlen.out ?_; intro v' w5 hR5; refine Hid.out ?_)
                  refine Lib.hid ?_
                  have HR5 := Lib.hid hR5
                  clear hR5
                  go_wp2
                  go_roundw
                  case rel => exact ⟨k + 1, x + 1, by omega, by go_num, by omega, HTK.out, by rw [HFI.out]; exact HR5.out⟩
                  case measure => simp [intOf]; omega
                · have HT4 : Hid (TakeR W hb n (leftT g F s (x + 1)) _ (numsF (findP g F s) (min (x + 1) n)) wr) := Lib.hid (by
                    rw [Nat.min_eq_left (by omega), numsF_no (by rw [hfind]; exact decide_eq_false hy), HGAPF.out]
                    exact HK.out.ext fun k c hk _ => by rw [left_none HG.out (by rw [HL.out]; exact hxn) HJ.out HO.out (d := 3) HD.out (by rw [hlg]; exact hy) c, left_gap hmx HGAP.out])
                  have hyd : decide ((0 : Int) < leftT g F s m j 3) = false := decide_eq_false hy
                  obtain ⟨y, hyy⟩ : ∃ y, leftT g F s m j 3 = y := ⟨_, rfl⟩
                  rw [hyy] at hct hyd hrng
                  clear hyy hfind hlg hy
                  go_wp2_with fail
                  refine (home_b HRx.out hn256 (by omega) HH.out).mono ?_
                  rintro e w4 ⟨rfl, rfl⟩
                  go_wp2
                  go_quiet (fail)
                  go_wp2
                  go_roundw
                  case rel => exact ⟨k + 1, x + 1, by omega, by go_num, by omega, HTK.out, HT4.out.next (bel_drew wr _)⟩
                  case measure => simp [intOf]; omega
              · subst h
                have hct := HK.out.tab.cell (k := j) (c := 4) hjn (by omega)
                have hft := HK.out.tab.frozen (j * 5 + 4)
                have hfind := left_find HG.out HS.out (by rw [HL.out]; exact hxn) HJ.out HO.out (d := 4) HD.out HXF.out
                have hlg : leftT g F s x j 4 = leftT g F s m j 4 := left_gap hmx HGAP.out
                rw [hlg] at hfind
                have hrng := left_range (g := g) (F := F) (m := m) (k := j) HS.out 4
                have hjz : (j : Int) < (n : Int) := by omega
                by_cases hy : 0 < leftT g F s m j 4
                · have HT4 : Hid (∀ q, TakeR W hb n (leftT g F s (x + 1)) _ (numsF (findP g F s) (min m n)) ((wr.drewN q).setCell ⟨hb, j * 5 + 4, none⟩ (.int .i64 (leftT g F s m j 4 - 1)))) := Lib.hid (fun q => ((HK.out.next (bel_drew wr q)).set (by omega) j (leftT g F s m j 4 - 1)).ext fun k c hk _ => by
                    rw [left_take HG.out (by rw [HL.out]; exact hxn) HJ.out HO.out (d := 4) HD.out HXF.out (by rw [hlg]; exact hy) c]
                    unfold upT
                    rw [left_gap hmx HGAP.out, left_gap hmx HGAP.out])
                  have HFI : Hid (numsF (findP g F s) (min (x + 1) n) = numsF (findP g F s) (min m n) ++ [(x : Int)]) := Lib.hid (by
                    rw [Nat.min_eq_left (by omega), numsF_yes (by rw [hfind]; exact decide_eq_true hy), HGAPF.out])
                  have hyd : decide ((0 : Int) < leftT g F s m j 4) = true := decide_eq_true hy
                  obtain ⟨y, hyy⟩ : ∃ y, leftT g F s m j 4 = y := ⟨_, rfl⟩
                  rw [hyy] at hct HT4 hyd hrng hy
                  clear hyy hfind hlg
                  go_wp2_with fail
                  refine (home_b HRx.out hn256 (by omega) HH.out).mono ?_
                  rintro e w4 ⟨rfl, rfl⟩
                  go_wp2
                  go_quiet (fail)
                  go_wp2
                  go_region
                  all_goals go_wp2_with (at_builtin; refine wpList_append_TR rfl (.tmp 71) (.tmp 73) rfl (HT4.out _) rfl _ (by first | rfl | (simp; rfl)) hlen.out ?_; intro v' w5 hR5; refine Hid.out ?_)
                  refine Lib.hid ?_
                  have HR5 := Lib.hid hR5
                  clear hR5
                  go_wp2
                  go_roundw
                  case rel => exact ⟨k + 1, x + 1, by omega, by go_num, by omega, HTK.out, by rw [HFI.out]; exact HR5.out⟩
                  case measure => simp [intOf]; omega
                · have HT4 : Hid (TakeR W hb n (leftT g F s (x + 1)) _ (numsF (findP g F s) (min (x + 1) n)) wr) := Lib.hid (by
                    rw [Nat.min_eq_left (by omega), numsF_no (by rw [hfind]; exact decide_eq_false hy), HGAPF.out]
                    exact HK.out.ext fun k c hk _ => by rw [left_none HG.out (by rw [HL.out]; exact hxn) HJ.out HO.out (d := 4) HD.out (by rw [hlg]; exact hy) c, left_gap hmx HGAP.out])
                  have hyd : decide ((0 : Int) < leftT g F s m j 4) = false := decide_eq_false hy
                  obtain ⟨y, hyy⟩ : ∃ y, leftT g F s m j 4 = y := ⟨_, rfl⟩
                  rw [hyy] at hct hyd hrng
                  clear hyy hfind hlg hy
                  go_wp2_with fail
                  refine (home_b HRx.out hn256 (by omega) HH.out).mono ?_
                  rintro e w4 ⟨rfl, rfl⟩
                  go_wp2
                  go_quiet (fail)
                  go_wp2
                  go_roundw
                  case rel => exact ⟨k + 1, x + 1, by omega, by go_num, by omega, HTK.out, HT4.out.next (bel_drew wr _)⟩
                  case measure => simp [intOf]; omega
            · have HN : Hid (TakeR W hb n (leftT g F s (x + 1)) _ (numsF (findP g F s) (min (x + 1) n)) wr) := Lib.hid (by
                rw [Nat.min_eq_left (by omega), numsF_no (find_homeless HG.out (by rw [HL.out]; exact hxn) hd), HGAPF.out]
                exact HK.out.ext fun k c _ _ => by rw [left_skip hd, left_gap hmx HGAP.out])
              have HH := Lib.hid hh
              clear hh hd
              go_wp2_with fail
              refine (home_b HRk.out hn256 (by omega) HH.out).mono ?_
              rintro e w4 ⟨rfl, rfl⟩
              go_wp2
              go_quiet (fail)
              go_wp2
              go_roundw
              case rel => exact ⟨k + 1, x + 1, by omega, by go_num, by omega, HTK.out, HN.out.next (bel_drew wr _)⟩
              case measure => simp [intOf]; omega
          · have hfar := far_kind (g := g) (x := x) (by rw [HL.out]; omega)
            have HN : Hid (TakeR W hb n (leftT g F s (x + 1)) _ (numsF (findP g F s) (min (x + 1) n)) wr) := Lib.hid (by
              have e : numsF (findP g F s) (min (x + 1) n) = numsF (findP g F s) (min m n) := by
                rw [Nat.min_eq_right (by omega)]
                exact numsF_gap (Nat.min_le_right _ _) fun y h1 h2 => find_unfree (by rw [HL.out]; omega) (HGAP.out y (by omega) (by omega))
              rw [e]
              exact HK.out.ext fun k c _ _ => by rw [left_skip (.inl hfar), left_gap hmx HGAP.out])
            have HH := Lib.hid (home_far (g := g) (x := x) (by rw [HL.out]; omega))
            clear hfar
            go_wp2_with fail
            refine (home_b HRk.out hn256 (by omega) HH.out).mono ?_
            rintro e w4 ⟨rfl, rfl⟩
            go_wp2
            go_quiet (fail)
            go_wp2
            go_roundw
            case rel => exact ⟨k + 1, x + 1, by omega, by go_num, by omega, HTK.out, HN.out.next (bel_drew wr _)⟩
            case measure => simp [intOf]; omega
        · have hkn : k = n2 := by omega
          subst hkn
          have hend := take_end (p := fun j => hasB F (j : Int)) (n := 256) (by rw [← HSET.out, ← htake, List.take_of_length_le (by rw [HL2.out]; omega)]) hm
          have HP : Hid (∀ v, TakeR W hb n (leftT g F s m) v (numsF (findP g F s) (min m n)) wr → IPost (numsF (findP g F s) n) w (.returned v) wr) := Lib.hid (fun v h => by
            have e : numsF (findP g F s) n = numsF (findP g F s) (min m n) := numsF_gap (Nat.min_le_right _ _) fun y h1 h2 => find_unfree (by rw [HL.out]; exact h2) (hend y (by omega) (by omega))
            rw [e]
            exact h.post.trans HB0.out)
          clear hRk hIk htake hend
          go_wp2
          go_ret
          exact HP.out _ HK.out

end Go.Proofs.YtpoalgkgomljmaaDoor

namespace Go.Proofs.YtpoalgkgomljmaaDoor
open Go.RowKit

set_option maxRecDepth 100000 in
set_option maxHeartbeats 8000000 in
theorem suiting_noa (A : Option Addr) (n c : Nat) (A2 : Option Addr) (n2 c2 : Nat) (g : Gr) (F : List Int) (s : Sp) (w : World) (hg : GAsk w A n c g) (hf : LAsk w A2 n2 c2 F) (hs : SAsk s) (hrg : rightG g = false) :
    Calls Tryd.prog 33 #[.slice A n c, .slice A2 n2 c2, .agg #[.int .i64 s.nodes, .int .i64 s.cores, .int .i64 s.gpus, .string s.tag, .bool s.whole, .int .i64 s.long, .int .i64 s.prio]] w (IPost [] w) := by
  obtain ⟨W, hW⟩ : ∃ W, W = (w.alloc (.cells #[.slice A n c] 22)).alloc (spO s) := ⟨_, rfl⟩
  have hb0 : Below w.heap.size w W := by rw [hW]; exact ((Below.refl _ _).alloc (Nat.le_refl _) _).alloc (by simp) _
  have CG : Hid (CellK W ⟨w.heap.size, 0, none⟩ (.slice A n c)) := Lib.hid (by
    rw [hW]
    refine ⟨by simp; omega, ?_⟩
    rw [World.cell?_alloc_past (w := w.alloc _) _ _ _ (by simp), World.cell?_alloc_at _ _ _ _ rfl]
    rfl)
  have BX : Hid (BoxS W (w.heap.size + 1) s) := Lib.hid (by
    have := box_new (w.alloc (.cells #[.slice A n c] 22)) s
    rw [World.size_alloc] at this
    rw [hW]; exact this)
  have HB := Lib.hid hb0
  have FG := Lib.hid (hg.next hb0)
  have FF := Lib.hid (hf.next hb0)
  have HS := Lib.hid hs
  have HG0 := Lib.hid hg
  have RG' := Lib.hid hrg
  unfold spO at hW
  clear hb0 hg hf hs hrg
  have cg := CG.out.at'
  go_enter Tryd.func33, Tryd.ntmps33
  go_wp2_with fail
  rw [← hW]
  refine (graphRight_b FG.out.reads (ml300 FG.out.few) RG'.out).mono ?_
  rintro e w1 ⟨rfl, hb⟩
  have HBq := Lib.hid (HB.out.trans (hb.mono HB.out.size))
  clear HB
  have HB := HBq
  clear HBq
  have CGq := Lib.hid (CG.out.next hb)
  clear CG
  have CG := CGq
  clear CGq
  have BXq := Lib.hid (BX.out.next hb)
  clear BX
  have BX := BXq
  clear BXq
  have FGq := Lib.hid (FG.out.next hb)
  clear FG
  have FG := FGq
  clear FGq
  have FFq := Lib.hid (FF.out.next hb)
  clear FF
  have FF := FFq
  clear FFq
  clear hb
  clear hW cg
  go_wp2
  go_ret
  exact ipost_nil HB.out
set_option maxRecDepth 100000 in
set_option maxHeartbeats 8000000 in
theorem suiting_nob (A : Option Addr) (n c : Nat) (A2 : Option Addr) (n2 c2 : Nat) (g : Gr) (F : List Int) (s : Sp) (w : World) (hg : GAsk w A n c g) (hf : LAsk w A2 n2 c2 F) (hs : SAsk s) (hrg : rightG g = true) (hrF : rightB F = false) :
    Calls Tryd.prog 33 #[.slice A n c, .slice A2 n2 c2, .agg #[.int .i64 s.nodes, .int .i64 s.cores, .int .i64 s.gpus, .string s.tag, .bool s.whole, .int .i64 s.long, .int .i64 s.prio]] w (IPost [] w) := by
  obtain ⟨W, hW⟩ : ∃ W, W = (w.alloc (.cells #[.slice A n c] 22)).alloc (spO s) := ⟨_, rfl⟩
  have hb0 : Below w.heap.size w W := by rw [hW]; exact ((Below.refl _ _).alloc (Nat.le_refl _) _).alloc (by simp) _
  have CG : Hid (CellK W ⟨w.heap.size, 0, none⟩ (.slice A n c)) := Lib.hid (by
    rw [hW]
    refine ⟨by simp; omega, ?_⟩
    rw [World.cell?_alloc_past (w := w.alloc _) _ _ _ (by simp), World.cell?_alloc_at _ _ _ _ rfl]
    rfl)
  have BX : Hid (BoxS W (w.heap.size + 1) s) := Lib.hid (by
    have := box_new (w.alloc (.cells #[.slice A n c] 22)) s
    rw [World.size_alloc] at this
    rw [hW]; exact this)
  have HB := Lib.hid hb0
  have FG := Lib.hid (hg.next hb0)
  have FF := Lib.hid (hf.next hb0)
  have HS := Lib.hid hs
  have HG0 := Lib.hid hg
  have RG' := Lib.hid hrg
  have RF := Lib.hid hrF
  unfold spO at hW
  clear hb0 hg hf hs hrg hrF
  have cg := CG.out.at'
  go_enter Tryd.func33, Tryd.ntmps33
  go_wp2_with fail
  rw [← hW]
  refine (graphRight_b FG.out.reads (ml300 FG.out.few) RG'.out).mono ?_
  rintro e w1 ⟨rfl, hb⟩
  have HBq := Lib.hid (HB.out.trans (hb.mono HB.out.size))
  clear HB
  have HB := HBq
  clear HBq
  have CGq := Lib.hid (CG.out.next hb)
  clear CG
  have CG := CGq
  clear CGq
  have BXq := Lib.hid (BX.out.next hb)
  clear BX
  have BX := BXq
  clear BXq
  have FGq := Lib.hid (FG.out.next hb)
  clear FG
  have FG := FGq
  clear FGq
  have FFq := Lib.hid (FF.out.next hb)
  clear FF
  have FF := FFq
  clear FFq
  clear hb
  clear hW cg
  go_wp2_with fail
  refine (s_isSet FF.out.reads (ml300 FF.out.few) RF.out).mono ?_
  rintro e w2 ⟨rfl, hb⟩
  have HBq := Lib.hid (HB.out.trans (hb.mono HB.out.size))
  clear HB
  have HB := HBq
  clear HBq
  have CGq := Lib.hid (CG.out.next hb)
  clear CG
  have CG := CGq
  clear CGq
  have BXq := Lib.hid (BX.out.next hb)
  clear BX
  have BX := BXq
  clear BXq
  have FGq := Lib.hid (FG.out.next hb)
  clear FG
  have FG := FGq
  clear FGq
  have FFq := Lib.hid (FF.out.next hb)
  clear FF
  have FF := FFq
  clear FFq
  clear hb
  go_wp2
  go_ret
  exact ipost_nil HB.out
set_option maxRecDepth 100000 in
set_option maxHeartbeats 8000000 in
theorem suiting_noc (A : Option Addr) (n c : Nat) (A2 : Option Addr) (n2 c2 : Nat) (g : Gr) (F : List Int) (s : Sp) (w : World) (hg : GAsk w A n c g) (hf : LAsk w A2 n2 c2 F) (hs : SAsk s) (hrg : rightG g = true) (hrF : rightB F = true) (hrs : rightS s = false) :
    Calls Tryd.prog 33 #[.slice A n c, .slice A2 n2 c2, .agg #[.int .i64 s.nodes, .int .i64 s.cores, .int .i64 s.gpus, .string s.tag, .bool s.whole, .int .i64 s.long, .int .i64 s.prio]] w (IPost [] w) := by
  obtain ⟨W, hW⟩ : ∃ W, W = (w.alloc (.cells #[.slice A n c] 22)).alloc (spO s) := ⟨_, rfl⟩
  have hb0 : Below w.heap.size w W := by rw [hW]; exact ((Below.refl _ _).alloc (Nat.le_refl _) _).alloc (by simp) _
  have CG : Hid (CellK W ⟨w.heap.size, 0, none⟩ (.slice A n c)) := Lib.hid (by
    rw [hW]
    refine ⟨by simp; omega, ?_⟩
    rw [World.cell?_alloc_past (w := w.alloc _) _ _ _ (by simp), World.cell?_alloc_at _ _ _ _ rfl]
    rfl)
  have BX : Hid (BoxS W (w.heap.size + 1) s) := Lib.hid (by
    have := box_new (w.alloc (.cells #[.slice A n c] 22)) s
    rw [World.size_alloc] at this
    rw [hW]; exact this)
  have HB := Lib.hid hb0
  have FG := Lib.hid (hg.next hb0)
  have FF := Lib.hid (hf.next hb0)
  have HS := Lib.hid hs
  have HG0 := Lib.hid hg
  have RG' := Lib.hid hrg
  have RF := Lib.hid hrF
  have RS := Lib.hid hrs
  unfold spO at hW
  clear hb0 hg hf hs hrg hrF hrs
  have cg := CG.out.at'
  go_enter Tryd.func33, Tryd.ntmps33
  go_wp2_with fail
  rw [← hW]
  refine (graphRight_b FG.out.reads (ml300 FG.out.few) RG'.out).mono ?_
  rintro e w1 ⟨rfl, hb⟩
  have HBq := Lib.hid (HB.out.trans (hb.mono HB.out.size))
  clear HB
  have HB := HBq
  clear HBq
  have CGq := Lib.hid (CG.out.next hb)
  clear CG
  have CG := CGq
  clear CGq
  have BXq := Lib.hid (BX.out.next hb)
  clear BX
  have BX := BXq
  clear BXq
  have FGq := Lib.hid (FG.out.next hb)
  clear FG
  have FG := FGq
  clear FGq
  have FFq := Lib.hid (FF.out.next hb)
  clear FF
  have FF := FFq
  clear FFq
  clear hb
  clear hW cg
  go_wp2_with fail
  refine (s_isSet FF.out.reads (ml300 FF.out.few) RF.out).mono ?_
  rintro e w2 ⟨rfl, hb⟩
  have HBq := Lib.hid (HB.out.trans (hb.mono HB.out.size))
  clear HB
  have HB := HBq
  clear HBq
  have CGq := Lib.hid (CG.out.next hb)
  clear CG
  have CG := CGq
  clear CGq
  have BXq := Lib.hid (BX.out.next hb)
  clear BX
  have BX := BXq
  clear BXq
  have FGq := Lib.hid (FG.out.next hb)
  clear FG
  have FG := FGq
  clear FGq
  have FFq := Lib.hid (FF.out.next hb)
  clear FF
  have FF := FFq
  clear FFq
  clear hb
  have q0 := BX.out.c0
  have q1 := BX.out.c1
  have q2 := BX.out.c2
  have q3 := BX.out.c3
  have q4 := BX.out.c4
  have q5 := BX.out.c5
  have q6 := BX.out.c6
  go_wp2_with fail
  refine (specRight_b HS.out RS.out).mono ?_
  rintro e w3 ⟨rfl, hb⟩
  have HBq := Lib.hid (HB.out.trans (hb.mono HB.out.size))
  clear HB
  have HB := HBq
  clear HBq
  have CGq := Lib.hid (CG.out.next hb)
  clear CG
  have CG := CGq
  clear CGq
  have BXq := Lib.hid (BX.out.next hb)
  clear BX
  have BX := BXq
  clear BXq
  have FGq := Lib.hid (FG.out.next hb)
  clear FG
  have FG := FGq
  clear FGq
  have FFq := Lib.hid (FF.out.next hb)
  clear FF
  have FF := FFq
  clear FFq
  clear hb
  clear q0 q1 q2 q3 q4 q5 q6
  go_wp2
  go_ret
  exact ipost_nil HB.out
theorem suiting_any (A : Option Addr) (n c : Nat) (A2 : Option Addr) (n2 c2 : Nat) (g : Gr) (F : List Int) (s : Sp) (w : World) (hg : GAsk w A n c g) (hf : LAsk w A2 n2 c2 F) (hs : SAsk s) : Calls Tryd.prog 33 #[.slice A n c, .slice A2 n2 c2, .agg #[.int .i64 s.nodes, .int .i64 s.cores, .int .i64 s.gpus, .string s.tag, .bool s.whole, .int .i64 s.long, .int .i64 s.prio]] w (IPost (suitL g F s) w) := by
  cases hm : mayB g F s with
  | true => exact suiting_yes A n c A2 n2 c2 g F s w hg hf hs hm
  | false =>
    rw [suitL_no hm]
    unfold mayB at hm
    cases h1 : rightG g with
    | false => exact suiting_noa A n c A2 n2 c2 g F s w hg hf hs h1
    | true =>
      cases h2 : rightB F with
      | false => exact suiting_nob A n c A2 n2 c2 g F s w hg hf hs h1 h2
      | true =>
        cases h3 : rightS s with
        | false => exact suiting_noc A n c A2 n2 c2 g F s w hg hf hs h1 h2 h3
        | true => rw [h1, h2, h3] at hm; cases hm

theorem RI.take {w : World} {B n k : Nat} {A : Option Addr} {xs : List Int} (h : RI w B A n xs) (hk : k ≤ n) : RI w B A k (xs.take k) := by
  refine ⟨by rw [List.length_take, h.1]; omega, fun h0 => ?_⟩
  obtain ⟨b, off, e, hb, hc⟩ := h.2 (by omega)
  refine ⟨b, off, e, hb, fun j hj => ?_⟩
  rw [hc j (by omega), List.getD, List.getD, List.getElem?_take_of_lt hj]
theorem fpost_mk {A : Option Addr} {n c : Nat} {xs l : List Int} {w w' : World} {b b' : Bool} (hr : RI w' w'.heap.size A n xs) (hnil : A = none → c = 0) (hnc : n ≤ c) (hb : Below w.heap.size w w') (e : xs = l) (e2 : b' = b) : FPost l b w (.returned (.tuple #[.slice A n c, .bool b'])) w' := by
  subst e e2
  have := hr.1
  subst this
  exact ⟨⟨A, c, rfl, hr, hnil, hnc⟩, hb⟩
set_option maxRecDepth 100000 in
set_option maxHeartbeats 8000000 in
theorem find_a (A : Option Addr) (n c : Nat) (A2 : Option Addr) (n2 c2 : Nat) (g : Gr) (F : List Int) (s : Sp) (w : World) (hg : GAsk w A n c g) (hf : LAsk w A2 n2 c2 F) (hs : SAsk s) (h0 : (suitL g F s).length = 0) :
    Calls Tryd.prog 22 #[.slice A n c, .slice A2 n2 c2, .agg #[.int .i64 s.nodes, .int .i64 s.cores, .int .i64 s.gpus, .string s.tag, .bool s.whole, .int .i64 s.long, .int .i64 s.prio]] w (FPost [] false w) := by
  obtain ⟨W, hW⟩ : ∃ W, W = w.alloc (spO s) := ⟨_, rfl⟩
  have hb0 : Below w.heap.size w W := by rw [hW]; exact (Below.refl _ _).alloc (Nat.le_refl _) _
  have BX : Hid (BoxS W w.heap.size s) := Lib.hid (by rw [hW]; exact box_new w s)
  have HB := Lib.hid hb0
  have FG := Lib.hid (hg.next hb0)
  have FF := Lib.hid (hf.next hb0)
  have HS := Lib.hid hs
  unfold spO at hW
  clear hb0 hg hf hs
  have q0 := BX.out.c0
  have q1 := BX.out.c1
  have q2 := BX.out.c2
  have q3 := BX.out.c3
  have q4 := BX.out.c4
  have q5 := BX.out.c5
  have q6 := BX.out.c6
  have HFEW := Lib.hid (suitL_few (g := g) (F := F) (s := s))
  obtain ⟨l, hl⟩ : ∃ l, suitL g F s = l := ⟨_, rfl⟩
  have HL := Lib.hid hl
  rw [hl] at HFEW
  rw [hl] at h0
  obtain ⟨nl, hnl⟩ : ∃ nl, l.length = nl := ⟨_, rfl⟩
  have HNL := Lib.hid hnl
  rw [hnl] at h0
  subst h0
  clear hl hnl
  go_enter Tryd.func22, Tryd.ntmps22
  go_wp2_with fail
  rw [← hW]
  refine (calls_ipost (suiting_any _ _ _ _ _ _ _ _ _ _ FG.out FF.out HS.out) HL.out).mono ?_
  rintro e w1 ⟨⟨A1, c1, rfl, hr1, hnil1, hc1⟩, hb⟩
  have HBq := Lib.hid (HB.out.trans (hb.mono HB.out.size))
  clear HB
  have HB := HBq
  clear HBq
  have BXq := Lib.hid (BX.out.next hb)
  clear BX
  have BX := BXq
  clear BXq
  have FGq := Lib.hid (FG.out.next hb)
  clear FG
  have FG := FGq
  clear FGq
  have FFq := Lib.hid (FF.out.next hb)
  clear FF
  have FF := FFq
  clear FFq
  clear hb
  clear hr1 hnil1 hc1
  rw [HNL.out]
  clear hW
  go_wp2
  go_ret2
  exact fpost_mk RI.nil (fun _ => rfl) (Nat.le_refl _) HB.out rfl rfl
set_option maxRecDepth 100000 in
set_option maxHeartbeats 8000000 in
theorem find_b (A : Option Addr) (n c : Nat) (A2 : Option Addr) (n2 c2 : Nat) (g : Gr) (F : List Int) (s : Sp) (w : World) (hg : GAsk w A n c g) (hf : LAsk w A2 n2 c2 F) (hs : SAsk s) (h0 : (suitL g F s).length ≠ 0) (h1 : ((suitL g F s).length : Int) < s.nodes) :
    Calls Tryd.prog 22 #[.slice A n c, .slice A2 n2 c2, .agg #[.int .i64 s.nodes, .int .i64 s.cores, .int .i64 s.gpus, .string s.tag, .bool s.whole, .int .i64 s.long, .int .i64 s.prio]] w (FPost [] false w) := by
  obtain ⟨W, hW⟩ : ∃ W, W = w.alloc (spO s) := ⟨_, rfl⟩
  have hb0 : Below w.heap.size w W := by rw [hW]; exact (Below.refl _ _).alloc (Nat.le_refl _) _
  have BX : Hid (BoxS W w.heap.size s) := Lib.hid (by rw [hW]; exact box_new w s)
  have HB := Lib.hid hb0
  have FG := Lib.hid (hg.next hb0)
  have FF := Lib.hid (hf.next hb0)
  have HS := Lib.hid hs
  unfold spO at hW
  clear hb0 hg hf hs
  have q0 := BX.out.c0
  have q1 := BX.out.c1
  have q2 := BX.out.c2
  have q3 := BX.out.c3
  have q4 := BX.out.c4
  have q5 := BX.out.c5
  have q6 := BX.out.c6
  have HFEW := Lib.hid (suitL_few (g := g) (F := F) (s := s))
  obtain ⟨l, hl⟩ : ∃ l, suitL g F s = l := ⟨_, rfl⟩
  have HL := Lib.hid hl
  rw [hl] at HFEW
  rw [hl] at h0 h1
  obtain ⟨nl, hnl⟩ : ∃ nl, l.length = nl := ⟨_, rfl⟩
  have HNL := Lib.hid hnl
  rw [hnl] at h0 h1
  have d0 : ((nl : Int) == 0) = false := beq_eq_false_iff_ne.2 (by omega)
  have d00 : (nl == 0) = false := beq_eq_false_iff_ne.2 h0
  have d1 : decide ((nl : Int) < s.nodes) = true := decide_eq_true h1
  clear hl hnl
  go_enter Tryd.func22, Tryd.ntmps22
  go_wp2_with fail
  rw [← hW]
  refine (calls_ipost (suiting_any _ _ _ _ _ _ _ _ _ _ FG.out FF.out HS.out) HL.out).mono ?_
  rintro e w1 ⟨⟨A1, c1, rfl, hr1, hnil1, hc1⟩, hb⟩
  have HBq := Lib.hid (HB.out.trans (hb.mono HB.out.size))
  clear HB
  have HB := HBq
  clear HBq
  have BXq := Lib.hid (BX.out.next hb)
  clear BX
  have BX := BXq
  clear BXq
  have FGq := Lib.hid (FG.out.next hb)
  clear FG
  have FG := FGq
  clear FGq
  have FFq := Lib.hid (FF.out.next hb)
  clear FF
  have FF := FFq
  clear FFq
  clear hb
  clear hr1 hnil1 hc1
  rw [HNL.out]
  clear hW
  clear q0 q1 q2 q3 q4 q5 q6
  have q0 := BX.out.c0
  have q1 := BX.out.c1
  have q2 := BX.out.c2
  have q3 := BX.out.c3
  have q4 := BX.out.c4
  have q5 := BX.out.c5
  have q6 := BX.out.c6
  go_wp2
  go_ret2
  exact fpost_mk RI.nil (fun _ => rfl) (Nat.le_refl _) HB.out rfl rfl
theorem take_k {A : Option Addr} {n c : Nat} {A2 : Option Addr} {n2 c2 : Nat} {A3 : Option Addr} {n3 c3 k : Nat} {g : Gr} {F : List Int} {s : Sp} {l : List Int} {w : World} (hk : s.nodes = (k : Int)) (hsel : l.take k = numsF (selP g F s) n) (hg : GAsk w A n c g) (hf : LAsk w A2 n2 c2 F) (hrg : rightG g = true) (hrF : rightB F = true) (hrs : rightS s = true) (hl : RI w w.heap.size A3 n3 l) (hkn : k ≤ n3) :
    Calls Tryd.prog 34 #[.slice A n c, .slice A2 n2 c2, .agg #[.int .i64 (k : Int), .int .i64 s.cores, .int .i64 s.gpus, .string s.tag, .bool s.whole, .int .i64 s.long, .int .i64 s.prio], .slice A3 k c3] w (IPost (numsF (findP g F s) n) w) := by
  have h := take_any A n c A2 n2 c2 A3 k c3 g F s w hg.reads hrg hf.reads hrF hrs (by rw [← hsel]; exact hl.take hkn)
  rw [hk] at h
  exact h
set_option maxRecDepth 100000 in
set_option maxHeartbeats 8000000 in
theorem find_c (A : Option Addr) (n c : Nat) (A2 : Option Addr) (n2 c2 : Nat) (g : Gr) (F : List Int) (s : Sp) (w : World) (hg : GAsk w A n c g) (hf : LAsk w A2 n2 c2 F) (hs : SAsk s) (hm : mayB g F s = true) (h1 : s.nodes ≤ (suitL g F s).length) :
    Calls Tryd.prog 22 #[.slice A n c, .slice A2 n2 c2, .agg #[.int .i64 s.nodes, .int .i64 s.cores, .int .i64 s.gpus, .string s.tag, .bool s.whole, .int .i64 s.long, .int .i64 s.prio]] w (FPost (findL g F s) true w) := by
  obtain ⟨hrg, hrF, hrs⟩ := mayB_is hm
  have hpos := (rightS_is hrs).2.1
  have hlen := hg.reads.len
  have hsel := sel_take hm (by omega)
  rw [hlen] at hsel
  have hfin : findL g F s = numsF (findP g F s) n := by
    unfold findL
    rw [if_pos (hadB_is.2 ⟨hm, by rw [← suitL_len hm]; exact h1⟩), hlen]
  rw [hfin]
  have HRG := Lib.hid hrg
  have HRF := Lib.hid hrF
  have HRS := Lib.hid hrs
  clear hfin hm hrg hrF hrs hlen
  obtain ⟨W, hW⟩ : ∃ W, W = w.alloc (spO s) := ⟨_, rfl⟩
  have hb0 : Below w.heap.size w W := by rw [hW]; exact (Below.refl _ _).alloc (Nat.le_refl _) _
  have BX : Hid (BoxS W w.heap.size s) := Lib.hid (by rw [hW]; exact box_new w s)
  have HB := Lib.hid hb0
  have FG := Lib.hid (hg.next hb0)
  have FF := Lib.hid (hf.next hb0)
  have HS := Lib.hid hs
  unfold spO at hW
  clear hb0 hg hf hs
  have q0 := BX.out.c0
  have q1 := BX.out.c1
  have q2 := BX.out.c2
  have q3 := BX.out.c3
  have q4 := BX.out.c4
  have q5 := BX.out.c5
  have q6 := BX.out.c6
  have HFEW := Lib.hid (suitL_few (g := g) (F := F) (s := s))
  obtain ⟨l, hl⟩ : ∃ l, suitL g F s = l := ⟨_, rfl⟩
  have HL := Lib.hid hl
  rw [hl] at HFEW
  rw [hl] at h1 hsel
  obtain ⟨nl, hnl⟩ : ∃ nl, l.length = nl := ⟨_, rfl⟩
  have HNL := Lib.hid hnl
  rw [hnl] at h1
  obtain ⟨k, hk⟩ : ∃ k : Nat, s.nodes = (k : Int) := ⟨s.nodes.toNat, by omega⟩
  rw [hk, Int.toNat_natCast] at hsel
  have HSEL := Lib.hid hsel
  have HK := Lib.hid hk
  have HKN : Hid (k ≤ nl) := Lib.hid (by omega)
  have hkn := HKN.out
  have hk0 : 1 ≤ k := by omega
  have d0 : ((nl : Int) == 0) = false := beq_eq_false_iff_ne.2 (by omega)
  have d00 : (nl == 0) = false := beq_eq_false_iff_ne.2 (by omega)
  have d1 : decide (nl < k) = false := decide_eq_false (by omega)
  clear hl hnl hsel hk h1 hpos
  go_enter Tryd.func22, Tryd.ntmps22
  go_wp2_with fail
  rw [← hW]
  refine (calls_ipost (suiting_any _ _ _ _ _ _ _ _ _ _ FG.out FF.out HS.out) HL.out).mono ?_
  rintro e w1 ⟨⟨A1, c1, rfl, hr1, hnil1, hc1⟩, hb⟩
  have HBq := Lib.hid (HB.out.trans (hb.mono HB.out.size))
  clear HB
  have HB := HBq
  clear HBq
  have BXq := Lib.hid (BX.out.next hb)
  clear BX
  have BX := BXq
  clear BXq
  have FGq := Lib.hid (FG.out.next hb)
  clear FG
  have FG := FGq
  clear FGq
  have FFq := Lib.hid (FF.out.next hb)
  clear FF
  have FF := FFq
  clear FFq
  clear hb
  have FL := Lib.hid hr1
  clear hr1 hnil1
  rw [HNL.out]
  clear hW
  clear q0 q1 q2 q3 q4 q5 q6
  rw [HNL.out] at FL hc1
  have hcz : (k : Int) ≤ (c1 : Int) := by omega
  have q0 := BX.out.c0
  rw [HK.out] at q0
  go_wp2
  have HKEEP : Hid (∀ wx, Below w1.drew.heap.size w1.drew wx → wx.cell? ⟨w.heap.size, 0, none⟩ = some (.int .i64 (k : Int)) ∧ wx.cell? ⟨w.heap.size, 1, none⟩ = some (.int .i64 s.cores) ∧ wx.cell? ⟨w.heap.size, 2, none⟩ = some (.int .i64 s.gpus) ∧ wx.cell? ⟨w.heap.size, 3, none⟩ = some (.string s.tag) ∧ wx.cell? ⟨w.heap.size, 4, none⟩ = some (.bool s.whole) ∧ wx.cell? ⟨w.heap.size, 5, none⟩ = some (.int .i64 s.long) ∧ wx.cell? ⟨w.heap.size, 6, none⟩ = some (.int .i64 s.prio)) := Lib.hid (fun wx hz' => by
    have hz := (bel_drew1 w1).trans (hz'.mono (bel_drew1 w1).size)
    exact ⟨keep_cell BX.out.lt (by rw [← HK.out]; exact BX.out.c0) hz, keep_cell BX.out.lt BX.out.c1 hz, keep_cell BX.out.lt BX.out.c2 hz, keep_cell BX.out.lt BX.out.c3 hz, keep_cell BX.out.lt BX.out.c4 hz, keep_cell BX.out.lt BX.out.c5 hz, keep_cell BX.out.lt BX.out.c6 hz⟩)
  have hd := bel_drew1 w1
  have HBq := Lib.hid (HB.out.trans (hd.mono HB.out.size))
  clear HB
  have HB := HBq
  clear HBq
  have BXq := Lib.hid (BX.out.next hd)
  clear BX
  have BX := BXq
  clear BXq
  have FGq := Lib.hid (FG.out.next hd)
  clear FG
  have FG := FGq
  clear FGq
  have FFq := Lib.hid (FF.out.next hd)
  clear FF
  have FF := FFq
  clear FFq
  have FLq := Lib.hid (FL.out.next hd)
  clear FL
  have FL := FLq
  clear FLq
  clear hd
  have HY := Lib.hid (Below.refl w1.drew.heap.size w1.drew)
  go_region_held3 (fun w' => w'.cell? ⟨w.heap.size, 0, none⟩ = some (.int .i64 (k : Int)) ∧ w'.cell? ⟨w.heap.size, 1, none⟩ = some (.int .i64 s.cores) ∧ w'.cell? ⟨w.heap.size, 2, none⟩ = some (.int .i64 s.gpus) ∧ w'.cell? ⟨w.heap.size, 3, none⟩ = some (.string s.tag) ∧ w'.cell? ⟨w.heap.size, 4, none⟩ = some (.bool s.whole) ∧ w'.cell? ⟨w.heap.size, 5, none⟩ = some (.int .i64 s.long) ∧ w'.cell? ⟨w.heap.size, 6, none⟩ = some (.int .i64 s.prio))
    (first | exact HKEEP.out _ (Below.refl _ _) | exact HKEEP.out _ HY.out | go_keep | fail)
    (first | (go_at_call 34; (with_reducible refine (take_k HK.out HSEL.out FG.out FF.out HRG.out HRF.out HRS.out FL.out HKN.out (w := w1.drew)).mono ?_); rintro e w2 ⟨⟨A2, c2, rfl, hr2, hnil2, hc2⟩, hb⟩; have HY := Lib.hid (HY.out.trans (hb.mono HY.out.size)); have HB := Lib.hid (HB.out.trans (hb.mono HB.out.size)); have BX := Lib.hid (BX.out.next hb); have FG := Lib.hid (FG.out.next hb); have FF := Lib.hid (FF.out.next hb); have FL := Lib.hid (FL.out.next hb); have F2 := Lib.hid (And.intro hr2 (And.intro hnil2 hc2)); clear hb) | fail)
  clear HKEEP HY
  go_wp2
  go_ret2
  exact fpost_mk F2.out.1 F2.out.2.1 F2.out.2.2 HB.out rfl rfl
theorem find_any (A : Option Addr) (n c : Nat) (A2 : Option Addr) (n2 c2 : Nat) (g : Gr) (F : List Int) (s : Sp) (w : World) (hg : GAsk w A n c g) (hf : LAsk w A2 n2 c2 F) (hs : SAsk s) : Calls Tryd.prog 22 #[.slice A n c, .slice A2 n2 c2, .agg #[.int .i64 s.nodes, .int .i64 s.cores, .int .i64 s.gpus, .string s.tag, .bool s.whole, .int .i64 s.long, .int .i64 s.prio]] w (FPost (findL g F s) (hadB g F s) w) := by
  by_cases h0 : (suitL g F s).length = 0
  · have hno : hadB g F s = false := by
      refine Bool.eq_false_iff.2 fun h => ?_
      obtain ⟨hm, hc⟩ := hadB_is.1 h
      have := (rightS_is (mayB_is hm).2.2).2.1
      rw [suitL_len hm] at h0
      omega
    rw [findL_no hno, hno]
    exact find_a A n c A2 n2 c2 g F s w hg hf hs h0
  · have hm : mayB g F s = true := by
      cases hm : mayB g F s with
      | true => rfl
      | false => rw [suitL_no hm] at h0; exact absurd rfl h0
    by_cases h1 : ((suitL g F s).length : Int) < s.nodes
    · have hno : hadB g F s = false := by
        refine Bool.eq_false_iff.2 fun h => ?_
        have hc := (hadB_is.1 h).2
        rw [suitL_len hm] at h1
        omega
      rw [findL_no hno, hno]
      exact find_b A n c A2 n2 c2 g F s w hg hf hs h0 h1
    · have hyes : hadB g F s = true := hadB_is.2 ⟨hm, by rw [← suitL_len hm]; omega⟩
      rw [hyes]
      exact find_c A n c A2 n2 c2 g F s w hg hf hs hm (by omega)


theorem matchOk_is : MatchOk where
  find := fun A n c A2 n2 c2 g F s w hg hf hs _ => find_any A n c A2 n2 c2 g F s w hg hf hs

end Go.Proofs.YtpoalgkgomljmaaDoor

namespace Go.Proofs.YtpoalgkgomljmaaDoor
open Go.RowKit

/-- one block laid: the spec that came in -/
theorem box_in {w W : World} {s : Sp} (hW : W = w.alloc (spO s)) : BoxS W w.heap.size s ∧ Below w.heap.size w W := by
  subst hW
  exact ⟨box_new w s, (Below.refl _ _).alloc (Nat.le_refl _) _⟩

set_option maxRecDepth 100000 in
set_option maxHeartbeats 2000000 in
theorem specEnds_any (s : Sp) (a : Int) (w : World) (hs : SAsk s) :
    Calls Tryd.prog 20 #[.agg #[.int .i64 s.nodes, .int .i64 s.cores, .int .i64 s.gpus, .string s.tag, .bool s.whole, .int .i64 s.long, .int .i64 s.prio], .int .i64 a] w fun e w' => e = .returned (.int .i64 (endsS s a)) ∧ Below w.heap.size w w' := by
  have HS := Lib.hid hs
  obtain ⟨W, hW⟩ : ∃ W, W = w.alloc (spO s) := ⟨_, rfl⟩
  have BX := Lib.hid (box_in hW).1
  have BW := Lib.hid (box_in hW).2
  unfold spO at hW
  clear hs
  cases hr : rightS s with
  | false =>
    have e0 : endsS s a = plusZ a 0 := by unfold endsS; rw [if_neg (by rw [hr]; simp)]
    rw [e0]
    have HR := Lib.hid hr
    clear hr e0
    go_enter Tryd.func20, Tryd.ntmps20
    go_wp2_with fail
    rw [← hW]
    refine (specRight_b HS.out HR.out).mono ?_
    rintro e w1 ⟨rfl, hb⟩
    have HB1 := Lib.hid (BW.out.trans (hb.mono BW.out.size))
    have BX1 := Lib.hid (BX.out.next hb)
    clear hb
    go_wp2_with fail
    refine (whenPlus_any _ _ _).mono ?_
    rintro e w2 ⟨rfl, rfl⟩
    go_wp2
    go_ret
    exact ⟨rfl, HB1.out⟩
  | true =>
    have e0 : endsS s a = plusZ a s.long := by unfold endsS; rw [if_pos hr]
    rw [e0]
    have HR := Lib.hid hr
    clear hr e0
    go_enter Tryd.func20, Tryd.ntmps20
    go_wp2_with fail
    rw [← hW]
    refine (specRight_b HS.out HR.out).mono ?_
    rintro e w1 ⟨rfl, hb⟩
    have HB1 := Lib.hid (BW.out.trans (hb.mono BW.out.size))
    have BX1 := Lib.hid (BX.out.next hb)
    clear hb
    have c0 := BX1.out.c0
    have c1 := BX1.out.c1
    have c2 := BX1.out.c2
    have c3 := BX1.out.c3
    have c4 := BX1.out.c4
    have c5 := BX1.out.c5
    have c6 := BX1.out.c6
    go_wp2_with fail
    refine (whenPlus_any _ _ _).mono ?_
    rintro e w2 ⟨rfl, rfl⟩
    go_wp2
    go_ret
    exact ⟨rfl, HB1.out⟩


theorem specOk_ends : SpecOk where
  right := fun s w hs _ => specRight_any s w hs
  ends := fun s a w hs _ _ => specEnds_any s a w hs

end Go.Proofs.YtpoalgkgomljmaaDoor

namespace Go.Proofs.YtpoalgkgomljmaaDoor
open Go.RowKit


theorem slotOk_is : SlotOk where
  first _ _ _ _ _ _ _ _ _ _ _ _ _ _ _ _ hg hu hl hf hs ht hv hG := slotFirst_any heldOk_is matchOk_is specOk_ends hg hu hl hf hs ht hv hG

end Go.Proofs.YtpoalgkgomljmaaDoor
