/- The statement SpecParts, as a walk over the contracts: of any spec and two bytes the call returns true. -/
import Derived.Test.YtggfacginheapaaSpecLNormal
import Derived.Test.YtggfacginheapaaGraphWords
namespace Go.Proofs.Ytggfacginheapaa
open Go.RowKit

theorem parts_no {s : Sp} {x : Int} (h : rightS s = false) : partS s x = (⟨0, 0, 0, ⟨#[]⟩, false, 0, 0⟩, 1) := by unfold partS; rw [if_pos (.inl h)]; rfl
theorem parts_none {s : Sp} {x : Int} (hx : 0 ≤ x) (h : rightS s = true) (h2 : s.nodes ≤ x) : partS s x = (⟨0, 0, 0, ⟨#[]⟩, false, 0, 0⟩, 6) := by rw [partS_ok h hx, if_pos h2]; rfl
theorem asks_right {s : Sp} (h : rightS s = true) : asksS s = (s.nodes, s.nodes * s.cores, s.nodes * s.gpus) := by unfold asksS; rw [if_pos h]
theorem sask_right {s : Sp} (h : rightS s = true) : SAsk s := by
  obtain ⟨h0, h1, h2, h3, _, h5, h6⟩ := rightS_is h
  have := tagB_size h0
  exact ⟨i64_of (by omega) (by omega), i64_of (by omega) (by omega), i64_of (by omega) (by omega), by unfold maxLen; omega, i64_of (by omega) (by omega), i64_of (by omega) (by omega)⟩
theorem bel_box {w : World} (o : Obj) : Below w.heap.size w (w.alloc o) := (Below.refl _ _).alloc (Nat.le_refl _) _

set_option maxRecDepth 100000 in
set_option maxHeartbeats 16000000 in
theorem specParts_walk (H : SpecOk) (s : Sp) (x y : Int) (w : World) (hs : SAsk s) (hx : 0 ≤ x ∧ x ≤ 255) (hy : 0 ≤ y ∧ y ≤ 255) (hG : Glob w) :
    Calls Try.prog 5 #[.agg #[.int .i64 s.nodes, .int .i64 s.cores, .int .i64 s.gpus, .string s.tag, .bool s.whole, .int .i64 s.long, .int .i64 s.prio], .int .u8 x, .int .u8 y] w fun e w' => e = .returned (.bool true) ∧ Below w.heap.size w w' := by
  have As := Lib.hid hs
  have hx0 := hx.1
  have hx1 := hx.2
  have hy0 := hy.1
  have hy1 := hy.2
  have IX : Hid (I64 x) := Lib.hid (i64_of (by omega) (by omega))
  have IY : Hid (I64 y) := Lib.hid (i64_of (by omega) (by omega))
  have IXY : Hid (I64 (x + y)) := Lib.hid (i64_of (by omega) (by omega))
  clear hs hx hy
  obtain ⟨W, hW⟩ : ∃ W, W = (w).alloc (spO s) := ⟨_, rfl⟩
  have Bs0 : Hid (BoxS W (w.heap.size) s) := Lib.hid (by rw [hW]; have h := (box_new (w) s); simpa using h)
  have HB0 : Hid (Below w.heap.size w W) := Lib.hid (by rw [hW]; exact ((Below.refl _ _).alloc (by simp <;> omega) _))
  have HG0 := Lib.hid (hG.next HB0.out)
  unfold spO at hW
  cases hr : rightS s with
  | false =>
    have E1 := Lib.hid (parts_no (x := x) hr)
    clear hr
    go_enter Try.func5, Try.ntmps5
    go_wp2_with fail
    rw [← hW]
    refine (awake7_any H _ HG0.out).mono ?_
    rintro e w1 ⟨rfl, hb⟩
    have HB1 := Lib.hid (HB0.out.trans (hb.mono HB0.out.size))
    have HG1 := Lib.hid (HG0.out.next hb)
    have Bs1 := Lib.hid (Bs0.out.next hb)
    clear hb
    have s0 := Bs1.out.c0
    have s1 := Bs1.out.c1
    have s2 := Bs1.out.c2
    have s3 := Bs1.out.c3
    have s4 := Bs1.out.c4
    have s5 := Bs1.out.c5
    have s6 := Bs1.out.c6
    go_wp2_with fail
    refine (s7_part H As.out HG1.out IX.out E1.out).mono ?_
    rintro e w2 ⟨rfl, hb⟩
    have HB2 := Lib.hid (HB1.out.trans (hb.mono HB1.out.size))
    have HG2 := Lib.hid (HG1.out.next hb)
    have Bs2 := Lib.hid (Bs1.out.next hb)
    clear hb
    clear s0 s1 s2 s3 s4 s5 s6
    go_wp2
    go_ret
    exact ⟨rfl, HB2.out.trans ((bel_box _).mono HB2.out.size)⟩
  | true =>
    by_cases hnx : s.nodes ≤ x
    · have E1 := Lib.hid (parts_none hx0 hr hnx)
      clear hr hnx
      go_enter Try.func5, Try.ntmps5
      go_wp2_with fail
      rw [← hW]
      refine (awake7_any H _ HG0.out).mono ?_
      rintro e w1 ⟨rfl, hb⟩
      have HB1 := Lib.hid (HB0.out.trans (hb.mono HB0.out.size))
      have HG1 := Lib.hid (HG0.out.next hb)
      have Bs1 := Lib.hid (Bs0.out.next hb)
      clear hb
      have s0 := Bs1.out.c0
      have s1 := Bs1.out.c1
      have s2 := Bs1.out.c2
      have s3 := Bs1.out.c3
      have s4 := Bs1.out.c4
      have s5 := Bs1.out.c5
      have s6 := Bs1.out.c6
      go_wp2_with fail
      refine (s7_part H As.out HG1.out IX.out E1.out).mono ?_
      rintro e w2 ⟨rfl, hb⟩
      have HB2 := Lib.hid (HB1.out.trans (hb.mono HB1.out.size))
      have HG2 := Lib.hid (HG1.out.next hb)
      have Bs2 := Lib.hid (Bs1.out.next hb)
      clear hb
      clear s0 s1 s2 s3 s4 s5 s6
      go_wp2
      go_ret
      exact ⟨rfl, HB2.out.trans ((bel_box _).mono HB2.out.size)⟩
    · obtain ⟨a, ha⟩ : ∃ a, partS s x = (a, 0) := ⟨_, by rw [partS_ok hr hx0, if_neg hnx]⟩
      obtain ⟨hra, han, hac, hag, _, hpp⟩ := part_part hx0 hy0 ha
      have E1 := Lib.hid ha
      have Aa := Lib.hid (sask_right hra)
      have Ra := Lib.hid hra
      obtain ⟨p2, er2, hp2⟩ : ∃ p2 er2, partS a y = (p2, er2) := ⟨_, _, rfl⟩
      have E4 := Lib.hid hp2
      have E5 := Lib.hid (hpp.symm.trans hp2)
      have bs := rightS_is hr
      have m1 := mul_bounds (x := s.nodes) (y := s.cores) (by omega) bs.2.1.2 bs.2.2.1.1 bs.2.2.1.2
      have m2 := mul_bounds (x := s.nodes) (y := s.gpus) (by omega) bs.2.1.2 bs.2.2.2.1.1 bs.2.2.2.1.2
      have ba := rightS_is hra
      have m3 := mul_bounds (x := a.nodes) (y := a.cores) (by omega) ba.2.1.2 ba.2.2.1.1 ba.2.2.1.2
      have m4 := mul_bounds (x := a.nodes) (y := a.gpus) (by omega) ba.2.1.2 ba.2.2.2.1.1 ba.2.2.2.1.2
      have l1 : s.nodes * s.cores - a.nodes * a.cores = x * s.cores := by rw [han, hac, Int.sub_mul]; omega
      have l2 : s.nodes * s.gpus - a.nodes * a.gpus = x * s.gpus := by rw [han, hag, Int.sub_mul]; omega
      have E2 := Lib.hid (asks_right hr)
      have E3 := Lib.hid (asks_right hra)
      generalize s.nodes * s.cores = c1 at *
      generalize s.nodes * s.gpus = g1 at *
      generalize a.nodes * a.cores = c2 at *
      generalize a.nodes * a.gpus = g2 at *
      obtain ⟨q1, hq1⟩ : ∃ q, x * s.cores = q := ⟨_, rfl⟩
      obtain ⟨q2, hq2⟩ : ∃ q, x * s.gpus = q := ⟨_, rfl⟩
      rw [hq1] at l1
      rw [hq2] at l2
      obtain ⟨n1, hn1⟩ : ∃ n, s.nodes = n := ⟨_, rfl⟩
      obtain ⟨n2, hn2⟩ : ∃ n, a.nodes = n := ⟨_, rfl⟩
      rw [hn1] at E2
      rw [hn2] at E3
      have l0 : n1 - n2 = x := by omega
      have b0 : 0 ≤ n1 ∧ n1 ≤ 64 ∧ 0 ≤ n2 ∧ n2 ≤ 64 := by omega
      have b1 : 0 ≤ c1 ∧ c1 ≤ 4096 ∧ 0 ≤ c2 ∧ c2 ≤ 4096 ∧ 0 ≤ g1 ∧ g1 ≤ 4096 ∧ 0 ≤ g2 ∧ g2 ≤ 4096 := by omega
      have b2 : 0 ≤ q1 ∧ q1 ≤ 4096 ∧ 0 ≤ q2 ∧ q2 ≤ 4096 := by
        have k1 := mul_bounds (x := x) (y := s.cores) hx0 (by omega) bs.2.2.1.1 bs.2.2.1.2
        have k2 := mul_bounds (x := x) (y := s.gpus) hx0 (by omega) bs.2.2.2.1.1 bs.2.2.2.1.2
        omega
      have LL := Lib.hid (And.intro l0 (And.intro l1 (And.intro l2 (And.intro hq1 (And.intro hq2 (And.intro b0 (And.intro b1 b2)))))))
      clear l0 l1 l2 hq1 hq2 b0 b1 b2 m1 m2 m3 m4 bs ba hn1 hn2 hra han hac hag hpp ha hp2 hr hnx
      go_enter Try.func5, Try.ntmps5
      go_wp2_with fail
      rw [← hW]
      refine (awake7_any H _ HG0.out).mono ?_
      rintro e w1 ⟨rfl, hb⟩
      have HB1 := Lib.hid (HB0.out.trans (hb.mono HB0.out.size))
      have HG1 := Lib.hid (HG0.out.next hb)
      have Bs1 := Lib.hid (Bs0.out.next hb)
      clear hb
      have s0 := Bs1.out.c0
      have s1 := Bs1.out.c1
      have s2 := Bs1.out.c2
      have s3 := Bs1.out.c3
      have s4 := Bs1.out.c4
      have s5 := Bs1.out.c5
      have s6 := Bs1.out.c6
      go_wp2_with fail
      refine (s7_part H As.out HG1.out IX.out E1.out).mono ?_
      rintro e w2 ⟨rfl, hb⟩
      have HB2 := Lib.hid (HB1.out.trans (hb.mono HB1.out.size))
      have HG2 := Lib.hid (HG1.out.next hb)
      have Bs2 := Lib.hid (Bs1.out.next hb)
      clear hb
      clear s0 s1 s2 s3 s4 s5 s6
      have Ba3 : Hid (BoxS (w2.alloc (.cells #[.int .i64 a.nodes, .int .i64 a.cores, .int .i64 a.gpus, .string a.tag, .bool a.whole, .int .i64 a.long, .int .i64 a.prio] 23)) w2.heap.size a) := Lib.hid (box_new w2 a)
      have HX3 : Hid (Below w2.heap.size w2 (w2.alloc (.cells #[.int .i64 a.nodes, .int .i64 a.cores, .int .i64 a.gpus, .string a.tag, .bool a.whole, .int .i64 a.long, .int .i64 a.prio] 23))) := Lib.hid (bel_box _)
      have HB3 := Lib.hid (HB2.out.trans (HX3.out.mono HB2.out.size))
      have HG3 := Lib.hid (HG2.out.next HX3.out)
      have Bs3 := Lib.hid (Bs2.out.next HX3.out)
      have s0 := Bs3.out.c0
      have s1 := Bs3.out.c1
      have s2 := Bs3.out.c2
      have s3 := Bs3.out.c3
      have s4 := Bs3.out.c4
      have s5 := Bs3.out.c5
      have s6 := Bs3.out.c6
      have a0 := Ba3.out.c0
      have a1 := Ba3.out.c1
      have a2 := Ba3.out.c2
      have a3 := Ba3.out.c3
      have a4 := Ba3.out.c4
      have a5 := Ba3.out.c5
      have a6 := Ba3.out.c6
      go_wp2_with fail
      refine (s7_asks H As.out HG3.out E2.out).mono ?_
      rintro e w4 ⟨rfl, hb⟩
      have HB4 := Lib.hid (HB3.out.trans (hb.mono HB3.out.size))
      have HG4 := Lib.hid (HG3.out.next hb)
      have Bs4 := Lib.hid (Bs3.out.next hb)
      have Ba4 := Lib.hid (Ba3.out.next hb)
      clear hb
      clear s0 s1 s2 s3 s4 s5 s6 a0 a1 a2 a3 a4 a5 a6
      have s0 := Bs4.out.c0
      have s1 := Bs4.out.c1
      have s2 := Bs4.out.c2
      have s3 := Bs4.out.c3
      have s4 := Bs4.out.c4
      have s5 := Bs4.out.c5
      have s6 := Bs4.out.c6
      have a0 := Ba4.out.c0
      have a1 := Ba4.out.c1
      have a2 := Ba4.out.c2
      have a3 := Ba4.out.c3
      have a4 := Ba4.out.c4
      have a5 := Ba4.out.c5
      have a6 := Ba4.out.c6
      go_wp2_with fail
      refine (s7_asks H Aa.out HG4.out E3.out).mono ?_
      rintro e w5 ⟨rfl, hb⟩
      have HB5 := Lib.hid (HB4.out.trans (hb.mono HB4.out.size))
      have HG5 := Lib.hid (HG4.out.next hb)
      have Bs5 := Lib.hid (Bs4.out.next hb)
      have Ba5 := Lib.hid (Ba4.out.next hb)
      clear hb
      clear s0 s1 s2 s3 s4 s5 s6 a0 a1 a2 a3 a4 a5 a6
      have s0 := Bs5.out.c0
      have s1 := Bs5.out.c1
      have s2 := Bs5.out.c2
      have s3 := Bs5.out.c3
      have s4 := Bs5.out.c4
      have s5 := Bs5.out.c5
      have s6 := Bs5.out.c6
      have a0 := Ba5.out.c0
      have a1 := Ba5.out.c1
      have a2 := Ba5.out.c2
      have a3 := Ba5.out.c3
      have a4 := Ba5.out.c4
      have a5 := Ba5.out.c5
      have a6 := Ba5.out.c6
      go_wp2_with fail
      refine (s7_right H Aa.out HG5.out Ra.out).mono ?_
      rintro e w6 ⟨rfl, hb⟩
      have HB6 := Lib.hid (HB5.out.trans (hb.mono HB5.out.size))
      have HG6 := Lib.hid (HG5.out.next hb)
      have Bs6 := Lib.hid (Bs5.out.next hb)
      have Ba6 := Lib.hid (Ba5.out.next hb)
      clear hb
      clear s0 s1 s2 s3 s4 s5 s6 a0 a1 a2 a3 a4 a5 a6
      obtain ⟨l0, l1, l2, hq1, hq2, ⟨b1, b2, b3, b4⟩, ⟨b5, b6, b7, b8, b9, b10, b11, b12⟩, b13, b14, b15, b16⟩ := LL.out
      have s0 := Bs6.out.c0
      have s1 := Bs6.out.c1
      have s2 := Bs6.out.c2
      have s3 := Bs6.out.c3
      have s4 := Bs6.out.c4
      have s5 := Bs6.out.c5
      have s6 := Bs6.out.c6
      have a0 := Ba6.out.c0
      have a1 := Ba6.out.c1
      have a2 := Ba6.out.c2
      have a3 := Ba6.out.c3
      have a4 := Ba6.out.c4
      have a5 := Ba6.out.c5
      have a6 := Ba6.out.c6
      go_wp2_with fail
      clear l0 l1 l2 hq1 hq2 b1 b2 b3 b4 b5 b6 b7 b8 b9 b10 b11 b12 b13 b14 b15 b16
      refine (s7_part H Aa.out HG6.out IY.out E4.out).mono ?_
      rintro e w7 ⟨rfl, hb⟩
      have HB7 := Lib.hid (HB6.out.trans (hb.mono HB6.out.size))
      have HG7 := Lib.hid (HG6.out.next hb)
      have Bs7 := Lib.hid (Bs6.out.next hb)
      have Ba7 := Lib.hid (Ba6.out.next hb)
      clear hb
      clear s0 s1 s2 s3 s4 s5 s6 a0 a1 a2 a3 a4 a5 a6
      have Bp8 : Hid (BoxS (w7.alloc (.cells #[.int .i64 p2.nodes, .int .i64 p2.cores, .int .i64 p2.gpus, .string p2.tag, .bool p2.whole, .int .i64 p2.long, .int .i64 p2.prio] 23)) w7.heap.size p2) := Lib.hid (box_new w7 p2)
      have HX8 : Hid (Below w7.heap.size w7 (w7.alloc (.cells #[.int .i64 p2.nodes, .int .i64 p2.cores, .int .i64 p2.gpus, .string p2.tag, .bool p2.whole, .int .i64 p2.long, .int .i64 p2.prio] 23))) := Lib.hid (bel_box _)
      have HB8 := Lib.hid (HB7.out.trans (HX8.out.mono HB7.out.size))
      have HG8 := Lib.hid (HG7.out.next HX8.out)
      have Bs8 := Lib.hid (Bs7.out.next HX8.out)
      have Ba8 := Lib.hid (Ba7.out.next HX8.out)
      have s0 := Bs8.out.c0
      have s1 := Bs8.out.c1
      have s2 := Bs8.out.c2
      have s3 := Bs8.out.c3
      have s4 := Bs8.out.c4
      have s5 := Bs8.out.c5
      have s6 := Bs8.out.c6
      go_wp2_with fail
      refine (s7_part H As.out HG8.out IXY.out E5.out).mono ?_
      rintro e w9 ⟨rfl, hb⟩
      have HB9 := Lib.hid (HB8.out.trans (hb.mono HB8.out.size))
      have HG9 := Lib.hid (HG8.out.next hb)
      have Bs9 := Lib.hid (Bs8.out.next hb)
      have Bp9 := Lib.hid (Bp8.out.next hb)
      clear hb
      clear s0 s1 s2 s3 s4 s5 s6
      have b0 := Bp9.out.c0
      have b1 := Bp9.out.c1
      have b2 := Bp9.out.c2
      have b3 := Bp9.out.c3
      have b4 := Bp9.out.c4
      have b5 := Bp9.out.c5
      have b6 := Bp9.out.c6
      have blt := Bp9.out.lt
      go_wp2
      go_ret
      exact ⟨rfl, HB9.out.trans ((bel_box _).mono HB9.out.size)⟩

end Go.Proofs.Ytggfacginheapaa
