/- The reference's Do of layer 11. Written by gen/gen_job.py. -/
import Derived.Test.YtpaabeadiokgoaaJobRefB
namespace Go.Proofs.Ytpaabeadiokgoaa
open Go.RowKit

theorem jAsk_turn {w : World} {A : Option Addr} {m c : Nat} {j : Jb} {s f e : Int} (h : JAsk w A m c j) (hs : I64 s) (hf : I64 f) (he : I64 e) : JAsk w A m c ⟨j.id, j.spec, j.needs, s, j.came, f, e⟩ :=
  ⟨h.reads, h.nil, h.cap, h.few, h.spec, h.int.1, hs, h.int.2.2.1, hf, he, h.int.2.2.2.2.2⟩
set_option maxRecDepth 100000 in
set_option maxHeartbeats 8000000 in
theorem refDo_1 (A : Option Addr) (m c : Nat) (j : Jb) (what now : Int) (w : World) (hj : JAsk w A m c j) (hr : rightJ j = false) :
    Calls Try.prog 8 #[.agg #[.int .i64 j.id, .int .i64 j.spec.nodes, .int .i64 j.spec.cores, .int .i64 j.spec.gpus, .string j.spec.tag, .bool j.spec.whole, .int .i64 j.spec.long, .int .i64 j.spec.prio, .slice A m c, .int .i64 j.state, .int .i64 j.came, .int .i64 j.frm, .int .i64 j.to], .int .i64 what, .int .i64 now] w (JPost j 1 w) := by
  obtain ⟨W, hW⟩ : ∃ W, W = (w.alloc (jO j A m c)).alloc (jO jb0 none 0 0) := ⟨_, rfl⟩
  have BX : Hid (BoxJ W w.heap.size j A m c) := Lib.hid (by rw [hW]; exact (boxJ_new w j A m c).next ((Below.refl _ _).alloc (Nat.le_refl _) _))
  have BR : Hid (BoxJ W (w.heap.size + 1) jb0 none 0 0) := Lib.hid (by
    have := boxJ_new (w.alloc (jO j A m c)) jb0 none 0 0
    rw [show (w.alloc (jO j A m c)).heap.size = w.heap.size + 1 by simp] at this
    rw [hW]; exact this)
  have hb0 : Below w.heap.size w W := by rw [hW]; exact ((Below.refl _ _).alloc (Nat.le_refl _) _).alloc (by simp) _
  have HB := Lib.hid hb0
  have JA := Lib.hid (hj.next hb0)
  have JW := Lib.hid hj
  unfold jO at hW
  simp only [jb0, sp0] at hW
  clear hb0
  have RJ := Lib.hid hr
  clear hj hr
  go_enter Try.func8, Try.ntmps8
  go_wp2_with fail
  rw [← hW]
  refine (refRightJ_b JA.out RJ.out).mono ?_
  rintro e w1 ⟨rfl, hb⟩
  have HBq := Lib.hid (HB.out.trans (hb.mono HB.out.size))
  clear HB
  have HB := HBq
  clear HBq
  have BXq := Lib.hid (BX.out.next hb)
  clear BX
  have BX := BXq
  clear BXq
  have BRq := Lib.hid (BR.out.next hb)
  clear BR
  have BR := BRq
  clear BRq
  have JAq := Lib.hid (JA.out.next hb)
  clear JA
  have JA := JAq
  clear JAq
  clear hb
  clear hW
  have q0 := BX.out.c0
  have q1 := BX.out.c1
  have q2 := BX.out.c2
  have q3 := BX.out.c3
  have q4 := BX.out.c4
  have q5 := BX.out.c5
  have q6 := BX.out.c6
  have q7 := BX.out.c7
  have q8 := BX.out.c8
  have q9 := BX.out.c9
  have q10 := BX.out.c10
  have q11 := BX.out.c11
  have q12 := BX.out.c12
  have p0 := BR.out.c0
  have y0 := BR.out.frozen 0
  have p1 := BR.out.c1
  have y1 := BR.out.frozen 1
  have p2 := BR.out.c2
  have y2 := BR.out.frozen 2
  have p3 := BR.out.c3
  have y3 := BR.out.frozen 3
  have p4 := BR.out.c4
  have y4 := BR.out.frozen 4
  have p5 := BR.out.c5
  have y5 := BR.out.frozen 5
  have p6 := BR.out.c6
  have y6 := BR.out.frozen 6
  have p7 := BR.out.c7
  have y7 := BR.out.frozen 7
  have p8 := BR.out.c8
  have y8 := BR.out.frozen 8
  have p9 := BR.out.c9
  have y9 := BR.out.frozen 9
  have p10 := BR.out.c10
  have y10 := BR.out.frozen 10
  have p11 := BR.out.c11
  have y11 := BR.out.frozen 11
  have p12 := BR.out.c12
  have y12 := BR.out.frozen 12
  go_wp2
  have HBF := below_store (v0 := .int .i64 j.id) (v1 := .int .i64 j.spec.nodes) (v2 := .int .i64 j.spec.cores) (v3 := .int .i64 j.spec.gpus) (v4 := .string j.spec.tag) (v5 := .bool j.spec.whole) (v6 := .int .i64 j.spec.long) (v7 := .int .i64 j.spec.prio) (v8 := .slice A m c) (v9 := .int .i64 j.state) (v10 := .int .i64 j.came) (v11 := .int .i64 j.frm) (v12 := .int .i64 j.to) HB.out (show w.heap.size ≤ w.heap.size + 1 by omega)
  have b1 := BR.out.store j A m c
  have r0 := b1.c0
  have r1 := b1.c1
  have r2 := b1.c2
  have r3 := b1.c3
  have r4 := b1.c4
  have r5 := b1.c5
  have r6 := b1.c6
  have r7 := b1.c7
  have r8 := b1.c8
  have r9 := b1.c9
  have r10 := b1.c10
  have r11 := b1.c11
  have r12 := b1.c12
  refine bodyPost_ret (v := .tuple #[.agg #[.int .i64 j.id, .int .i64 j.spec.nodes, .int .i64 j.spec.cores, .int .i64 j.spec.gpus, .string j.spec.tag, .bool j.spec.whole, .int .i64 j.spec.long, .int .i64 j.spec.prio, .slice A m c, .int .i64 j.state, .int .i64 j.came, .int .i64 j.frm, .int .i64 j.to], .int .i64 1]) (by simp [results, Try.results8, go_sem, r0, r1, r2, r3, r4, r5, r6, r7, r8, r9, r10, r11, r12]) rfl ⟨⟨A, m, c, rfl, JW.out.next HBF⟩, HBF⟩

set_option maxRecDepth 100000 in
set_option maxHeartbeats 8000000 in
theorem refDo_2 (A : Option Addr) (m c : Nat) (j : Jb) (what now : Int) (w : World) (hj : JAsk w A m c j) (hr : rightJ j = true) (h1 : what < 1) :
    Calls Try.prog 8 #[.agg #[.int .i64 j.id, .int .i64 j.spec.nodes, .int .i64 j.spec.cores, .int .i64 j.spec.gpus, .string j.spec.tag, .bool j.spec.whole, .int .i64 j.spec.long, .int .i64 j.spec.prio, .slice A m c, .int .i64 j.state, .int .i64 j.came, .int .i64 j.frm, .int .i64 j.to], .int .i64 what, .int .i64 now] w (JPost j 1 w) := by
  obtain ⟨W, hW⟩ : ∃ W, W = (w.alloc (jO j A m c)).alloc (jO jb0 none 0 0) := ⟨_, rfl⟩
  have BX : Hid (BoxJ W w.heap.size j A m c) := Lib.hid (by rw [hW]; exact (boxJ_new w j A m c).next ((Below.refl _ _).alloc (Nat.le_refl _) _))
  have BR : Hid (BoxJ W (w.heap.size + 1) jb0 none 0 0) := Lib.hid (by
    have := boxJ_new (w.alloc (jO j A m c)) jb0 none 0 0
    rw [show (w.alloc (jO j A m c)).heap.size = w.heap.size + 1 by simp] at this
    rw [hW]; exact this)
  have hb0 : Below w.heap.size w W := by rw [hW]; exact ((Below.refl _ _).alloc (Nat.le_refl _) _).alloc (by simp) _
  have HB := Lib.hid hb0
  have JA := Lib.hid (hj.next hb0)
  have JW := Lib.hid hj
  unfold jO at hW
  simp only [jb0, sp0] at hW
  clear hb0
  have RJ := Lib.hid hr
  have d1 : decide (what < 1) = true := decide_eq_true h1
  clear hj hr h1
  go_enter Try.func8, Try.ntmps8
  go_wp2_with fail
  rw [← hW]
  refine (refRightJ_b JA.out RJ.out).mono ?_
  rintro e w1 ⟨rfl, hb⟩
  have HBq := Lib.hid (HB.out.trans (hb.mono HB.out.size))
  clear HB
  have HB := HBq
  clear HBq
  have BXq := Lib.hid (BX.out.next hb)
  clear BX
  have BX := BXq
  clear BXq
  have BRq := Lib.hid (BR.out.next hb)
  clear BR
  have BR := BRq
  clear BRq
  have JAq := Lib.hid (JA.out.next hb)
  clear JA
  have JA := JAq
  clear JAq
  clear hb
  clear hW
  have q0 := BX.out.c0
  have q1 := BX.out.c1
  have q2 := BX.out.c2
  have q3 := BX.out.c3
  have q4 := BX.out.c4
  have q5 := BX.out.c5
  have q6 := BX.out.c6
  have q7 := BX.out.c7
  have q8 := BX.out.c8
  have q9 := BX.out.c9
  have q10 := BX.out.c10
  have q11 := BX.out.c11
  have q12 := BX.out.c12
  have p0 := BR.out.c0
  have y0 := BR.out.frozen 0
  have p1 := BR.out.c1
  have y1 := BR.out.frozen 1
  have p2 := BR.out.c2
  have y2 := BR.out.frozen 2
  have p3 := BR.out.c3
  have y3 := BR.out.frozen 3
  have p4 := BR.out.c4
  have y4 := BR.out.frozen 4
  have p5 := BR.out.c5
  have y5 := BR.out.frozen 5
  have p6 := BR.out.c6
  have y6 := BR.out.frozen 6
  have p7 := BR.out.c7
  have y7 := BR.out.frozen 7
  have p8 := BR.out.c8
  have y8 := BR.out.frozen 8
  have p9 := BR.out.c9
  have y9 := BR.out.frozen 9
  have p10 := BR.out.c10
  have y10 := BR.out.frozen 10
  have p11 := BR.out.c11
  have y11 := BR.out.frozen 11
  have p12 := BR.out.c12
  have y12 := BR.out.frozen 12
  go_wp2
  have HBF := below_store (v0 := .int .i64 j.id) (v1 := .int .i64 j.spec.nodes) (v2 := .int .i64 j.spec.cores) (v3 := .int .i64 j.spec.gpus) (v4 := .string j.spec.tag) (v5 := .bool j.spec.whole) (v6 := .int .i64 j.spec.long) (v7 := .int .i64 j.spec.prio) (v8 := .slice A m c) (v9 := .int .i64 j.state) (v10 := .int .i64 j.came) (v11 := .int .i64 j.frm) (v12 := .int .i64 j.to) HB.out (show w.heap.size ≤ w.heap.size + 1 by omega)
  have b1 := BR.out.store j A m c
  have r0 := b1.c0
  have r1 := b1.c1
  have r2 := b1.c2
  have r3 := b1.c3
  have r4 := b1.c4
  have r5 := b1.c5
  have r6 := b1.c6
  have r7 := b1.c7
  have r8 := b1.c8
  have r9 := b1.c9
  have r10 := b1.c10
  have r11 := b1.c11
  have r12 := b1.c12
  refine bodyPost_ret (v := .tuple #[.agg #[.int .i64 j.id, .int .i64 j.spec.nodes, .int .i64 j.spec.cores, .int .i64 j.spec.gpus, .string j.spec.tag, .bool j.spec.whole, .int .i64 j.spec.long, .int .i64 j.spec.prio, .slice A m c, .int .i64 j.state, .int .i64 j.came, .int .i64 j.frm, .int .i64 j.to], .int .i64 1]) (by simp [results, Try.results8, go_sem, r0, r1, r2, r3, r4, r5, r6, r7, r8, r9, r10, r11, r12]) rfl ⟨⟨A, m, c, rfl, JW.out.next HBF⟩, HBF⟩

set_option maxRecDepth 100000 in
set_option maxHeartbeats 8000000 in
theorem refDo_3 (A : Option Addr) (m c : Nat) (j : Jb) (what now : Int) (w : World) (hj : JAsk w A m c j) (hr : rightJ j = true) (h1 : ¬ what < 1) (h2 : 7 < what) :
    Calls Try.prog 8 #[.agg #[.int .i64 j.id, .int .i64 j.spec.nodes, .int .i64 j.spec.cores, .int .i64 j.spec.gpus, .string j.spec.tag, .bool j.spec.whole, .int .i64 j.spec.long, .int .i64 j.spec.prio, .slice A m c, .int .i64 j.state, .int .i64 j.came, .int .i64 j.frm, .int .i64 j.to], .int .i64 what, .int .i64 now] w (JPost j 1 w) := by
  obtain ⟨W, hW⟩ : ∃ W, W = (w.alloc (jO j A m c)).alloc (jO jb0 none 0 0) := ⟨_, rfl⟩
  have BX : Hid (BoxJ W w.heap.size j A m c) := Lib.hid (by rw [hW]; exact (boxJ_new w j A m c).next ((Below.refl _ _).alloc (Nat.le_refl _) _))
  have BR : Hid (BoxJ W (w.heap.size + 1) jb0 none 0 0) := Lib.hid (by
    have := boxJ_new (w.alloc (jO j A m c)) jb0 none 0 0
    rw [show (w.alloc (jO j A m c)).heap.size = w.heap.size + 1 by simp] at this
    rw [hW]; exact this)
  have hb0 : Below w.heap.size w W := by rw [hW]; exact ((Below.refl _ _).alloc (Nat.le_refl _) _).alloc (by simp) _
  have HB := Lib.hid hb0
  have JA := Lib.hid (hj.next hb0)
  have JW := Lib.hid hj
  unfold jO at hW
  simp only [jb0, sp0] at hW
  clear hb0
  have RJ := Lib.hid hr
  have d1 : decide (what < 1) = false := decide_eq_false h1
  have d2 : decide (7 < what) = true := decide_eq_true h2
  clear hj hr h1 h2
  go_enter Try.func8, Try.ntmps8
  go_wp2_with fail
  rw [← hW]
  refine (refRightJ_b JA.out RJ.out).mono ?_
  rintro e w1 ⟨rfl, hb⟩
  have HBq := Lib.hid (HB.out.trans (hb.mono HB.out.size))
  clear HB
  have HB := HBq
  clear HBq
  have BXq := Lib.hid (BX.out.next hb)
  clear BX
  have BX := BXq
  clear BXq
  have BRq := Lib.hid (BR.out.next hb)
  clear BR
  have BR := BRq
  clear BRq
  have JAq := Lib.hid (JA.out.next hb)
  clear JA
  have JA := JAq
  clear JAq
  clear hb
  clear hW
  have q0 := BX.out.c0
  have q1 := BX.out.c1
  have q2 := BX.out.c2
  have q3 := BX.out.c3
  have q4 := BX.out.c4
  have q5 := BX.out.c5
  have q6 := BX.out.c6
  have q7 := BX.out.c7
  have q8 := BX.out.c8
  have q9 := BX.out.c9
  have q10 := BX.out.c10
  have q11 := BX.out.c11
  have q12 := BX.out.c12
  have p0 := BR.out.c0
  have y0 := BR.out.frozen 0
  have p1 := BR.out.c1
  have y1 := BR.out.frozen 1
  have p2 := BR.out.c2
  have y2 := BR.out.frozen 2
  have p3 := BR.out.c3
  have y3 := BR.out.frozen 3
  have p4 := BR.out.c4
  have y4 := BR.out.frozen 4
  have p5 := BR.out.c5
  have y5 := BR.out.frozen 5
  have p6 := BR.out.c6
  have y6 := BR.out.frozen 6
  have p7 := BR.out.c7
  have y7 := BR.out.frozen 7
  have p8 := BR.out.c8
  have y8 := BR.out.frozen 8
  have p9 := BR.out.c9
  have y9 := BR.out.frozen 9
  have p10 := BR.out.c10
  have y10 := BR.out.frozen 10
  have p11 := BR.out.c11
  have y11 := BR.out.frozen 11
  have p12 := BR.out.c12
  have y12 := BR.out.frozen 12
  go_wp2
  have HBF := below_store (v0 := .int .i64 j.id) (v1 := .int .i64 j.spec.nodes) (v2 := .int .i64 j.spec.cores) (v3 := .int .i64 j.spec.gpus) (v4 := .string j.spec.tag) (v5 := .bool j.spec.whole) (v6 := .int .i64 j.spec.long) (v7 := .int .i64 j.spec.prio) (v8 := .slice A m c) (v9 := .int .i64 j.state) (v10 := .int .i64 j.came) (v11 := .int .i64 j.frm) (v12 := .int .i64 j.to) HB.out (show w.heap.size ≤ w.heap.size + 1 by omega)
  have b1 := BR.out.store j A m c
  have r0 := b1.c0
  have r1 := b1.c1
  have r2 := b1.c2
  have r3 := b1.c3
  have r4 := b1.c4
  have r5 := b1.c5
  have r6 := b1.c6
  have r7 := b1.c7
  have r8 := b1.c8
  have r9 := b1.c9
  have r10 := b1.c10
  have r11 := b1.c11
  have r12 := b1.c12
  refine bodyPost_ret (v := .tuple #[.agg #[.int .i64 j.id, .int .i64 j.spec.nodes, .int .i64 j.spec.cores, .int .i64 j.spec.gpus, .string j.spec.tag, .bool j.spec.whole, .int .i64 j.spec.long, .int .i64 j.spec.prio, .slice A m c, .int .i64 j.state, .int .i64 j.came, .int .i64 j.frm, .int .i64 j.to], .int .i64 1]) (by simp [results, Try.results8, go_sem, r0, r1, r2, r3, r4, r5, r6, r7, r8, r9, r10, r11, r12]) rfl ⟨⟨A, m, c, rfl, JW.out.next HBF⟩, HBF⟩

set_option maxRecDepth 100000 in
set_option maxHeartbeats 8000000 in
theorem refDo_4 (A : Option Addr) (m c : Nat) (j : Jb) (what now : Int) (w : World) (hj : JAsk w A m c j) (hr : rightJ j = true) (h1 : ¬ what < 1) (h2 : ¬ 7 < what) (h3 : timeJ now = false) :
    Calls Try.prog 8 #[.agg #[.int .i64 j.id, .int .i64 j.spec.nodes, .int .i64 j.spec.cores, .int .i64 j.spec.gpus, .string j.spec.tag, .bool j.spec.whole, .int .i64 j.spec.long, .int .i64 j.spec.prio, .slice A m c, .int .i64 j.state, .int .i64 j.came, .int .i64 j.frm, .int .i64 j.to], .int .i64 what, .int .i64 now] w (JPost j 1 w) := by
  obtain ⟨W, hW⟩ : ∃ W, W = (w.alloc (jO j A m c)).alloc (jO jb0 none 0 0) := ⟨_, rfl⟩
  have BX : Hid (BoxJ W w.heap.size j A m c) := Lib.hid (by rw [hW]; exact (boxJ_new w j A m c).next ((Below.refl _ _).alloc (Nat.le_refl _) _))
  have BR : Hid (BoxJ W (w.heap.size + 1) jb0 none 0 0) := Lib.hid (by
    have := boxJ_new (w.alloc (jO j A m c)) jb0 none 0 0
    rw [show (w.alloc (jO j A m c)).heap.size = w.heap.size + 1 by simp] at this
    rw [hW]; exact this)
  have hb0 : Below w.heap.size w W := by rw [hW]; exact ((Below.refl _ _).alloc (Nat.le_refl _) _).alloc (by simp) _
  have HB := Lib.hid hb0
  have JA := Lib.hid (hj.next hb0)
  have JW := Lib.hid hj
  unfold jO at hW
  simp only [jb0, sp0] at hW
  clear hb0
  have RJ := Lib.hid hr
  have d1 : decide (what < 1) = false := decide_eq_false h1
  have d2 : decide (7 < what) = false := decide_eq_false h2
  have TN := Lib.hid h3
  clear hj hr h1 h2 h3
  go_enter Try.func8, Try.ntmps8
  go_wp2_with fail
  rw [← hW]
  refine (refRightJ_b JA.out RJ.out).mono ?_
  rintro e w1 ⟨rfl, hb⟩
  have HBq := Lib.hid (HB.out.trans (hb.mono HB.out.size))
  clear HB
  have HB := HBq
  clear HBq
  have BXq := Lib.hid (BX.out.next hb)
  clear BX
  have BX := BXq
  clear BXq
  have BRq := Lib.hid (BR.out.next hb)
  clear BR
  have BR := BRq
  clear BRq
  have JAq := Lib.hid (JA.out.next hb)
  clear JA
  have JA := JAq
  clear JAq
  clear hb
  clear hW
  have q0 := BX.out.c0
  have q1 := BX.out.c1
  have q2 := BX.out.c2
  have q3 := BX.out.c3
  have q4 := BX.out.c4
  have q5 := BX.out.c5
  have q6 := BX.out.c6
  have q7 := BX.out.c7
  have q8 := BX.out.c8
  have q9 := BX.out.c9
  have q10 := BX.out.c10
  have q11 := BX.out.c11
  have q12 := BX.out.c12
  go_wp2_with fail
  refine (refTime_b TN.out).mono ?_
  rintro e w2 ⟨rfl, hb⟩
  have HBq := Lib.hid (HB.out.trans (hb.mono HB.out.size))
  clear HB
  have HB := HBq
  clear HBq
  have BXq := Lib.hid (BX.out.next hb)
  clear BX
  have BX := BXq
  clear BXq
  have BRq := Lib.hid (BR.out.next hb)
  clear BR
  have BR := BRq
  clear BRq
  have JAq := Lib.hid (JA.out.next hb)
  clear JA
  have JA := JAq
  clear JAq
  clear hb
  clear q0 q1 q2 q3 q4 q5 q6 q7 q8 q9 q10 q11 q12
  have q0 := BX.out.c0
  have q1 := BX.out.c1
  have q2 := BX.out.c2
  have q3 := BX.out.c3
  have q4 := BX.out.c4
  have q5 := BX.out.c5
  have q6 := BX.out.c6
  have q7 := BX.out.c7
  have q8 := BX.out.c8
  have q9 := BX.out.c9
  have q10 := BX.out.c10
  have q11 := BX.out.c11
  have q12 := BX.out.c12
  have p0 := BR.out.c0
  have y0 := BR.out.frozen 0
  have p1 := BR.out.c1
  have y1 := BR.out.frozen 1
  have p2 := BR.out.c2
  have y2 := BR.out.frozen 2
  have p3 := BR.out.c3
  have y3 := BR.out.frozen 3
  have p4 := BR.out.c4
  have y4 := BR.out.frozen 4
  have p5 := BR.out.c5
  have y5 := BR.out.frozen 5
  have p6 := BR.out.c6
  have y6 := BR.out.frozen 6
  have p7 := BR.out.c7
  have y7 := BR.out.frozen 7
  have p8 := BR.out.c8
  have y8 := BR.out.frozen 8
  have p9 := BR.out.c9
  have y9 := BR.out.frozen 9
  have p10 := BR.out.c10
  have y10 := BR.out.frozen 10
  have p11 := BR.out.c11
  have y11 := BR.out.frozen 11
  have p12 := BR.out.c12
  have y12 := BR.out.frozen 12
  go_wp2
  have HBF := below_store (v0 := .int .i64 j.id) (v1 := .int .i64 j.spec.nodes) (v2 := .int .i64 j.spec.cores) (v3 := .int .i64 j.spec.gpus) (v4 := .string j.spec.tag) (v5 := .bool j.spec.whole) (v6 := .int .i64 j.spec.long) (v7 := .int .i64 j.spec.prio) (v8 := .slice A m c) (v9 := .int .i64 j.state) (v10 := .int .i64 j.came) (v11 := .int .i64 j.frm) (v12 := .int .i64 j.to) HB.out (show w.heap.size ≤ w.heap.size + 1 by omega)
  have b1 := BR.out.store j A m c
  have r0 := b1.c0
  have r1 := b1.c1
  have r2 := b1.c2
  have r3 := b1.c3
  have r4 := b1.c4
  have r5 := b1.c5
  have r6 := b1.c6
  have r7 := b1.c7
  have r8 := b1.c8
  have r9 := b1.c9
  have r10 := b1.c10
  have r11 := b1.c11
  have r12 := b1.c12
  refine bodyPost_ret (v := .tuple #[.agg #[.int .i64 j.id, .int .i64 j.spec.nodes, .int .i64 j.spec.cores, .int .i64 j.spec.gpus, .string j.spec.tag, .bool j.spec.whole, .int .i64 j.spec.long, .int .i64 j.spec.prio, .slice A m c, .int .i64 j.state, .int .i64 j.came, .int .i64 j.frm, .int .i64 j.to], .int .i64 1]) (by simp [results, Try.results8, go_sem, r0, r1, r2, r3, r4, r5, r6, r7, r8, r9, r10, r11, r12]) rfl ⟨⟨A, m, c, rfl, JW.out.next HBF⟩, HBF⟩

set_option maxRecDepth 100000 in
set_option maxHeartbeats 8000000 in
theorem refDo_5 (A : Option Addr) (m c : Nat) (j : Jb) (what now : Int) (w : World) (hj : JAsk w A m c j) (hr : rightJ j = true) (h1 : ¬ what < 1) (h2 : ¬ 7 < what) (h3 : timeJ now = true) (h4 : now < j.came) :
    Calls Try.prog 8 #[.agg #[.int .i64 j.id, .int .i64 j.spec.nodes, .int .i64 j.spec.cores, .int .i64 j.spec.gpus, .string j.spec.tag, .bool j.spec.whole, .int .i64 j.spec.long, .int .i64 j.spec.prio, .slice A m c, .int .i64 j.state, .int .i64 j.came, .int .i64 j.frm, .int .i64 j.to], .int .i64 what, .int .i64 now] w (JPost j 1 w) := by
  obtain ⟨W, hW⟩ : ∃ W, W = (w.alloc (jO j A m c)).alloc (jO jb0 none 0 0) := ⟨_, rfl⟩
  have BX : Hid (BoxJ W w.heap.size j A m c) := Lib.hid (by rw [hW]; exact (boxJ_new w j A m c).next ((Below.refl _ _).alloc (Nat.le_refl _) _))
  have BR : Hid (BoxJ W (w.heap.size + 1) jb0 none 0 0) := Lib.hid (by
    have := boxJ_new (w.alloc (jO j A m c)) jb0 none 0 0
    rw [show (w.alloc (jO j A m c)).heap.size = w.heap.size + 1 by simp] at this
    rw [hW]; exact this)
  have hb0 : Below w.heap.size w W := by rw [hW]; exact ((Below.refl _ _).alloc (Nat.le_refl _) _).alloc (by simp) _
  have HB := Lib.hid hb0
  have JA := Lib.hid (hj.next hb0)
  have JW := Lib.hid hj
  unfold jO at hW
  simp only [jb0, sp0] at hW
  clear hb0
  have RJ := Lib.hid hr
  have d1 : decide (what < 1) = false := decide_eq_false h1
  have d2 : decide (7 < what) = false := decide_eq_false h2
  have TN := Lib.hid h3
  have d4 : decide (now < j.came) = true := decide_eq_true h4
  clear hj hr h1 h2 h3 h4
  go_enter Try.func8, Try.ntmps8
  go_wp2_with fail
  rw [← hW]
  refine (refRightJ_b JA.out RJ.out).mono ?_
  rintro e w1 ⟨rfl, hb⟩
  have HBq := Lib.hid (HB.out.trans (hb.mono HB.out.size))
  clear HB
  have HB := HBq
  clear HBq
  have BXq := Lib.hid (BX.out.next hb)
  clear BX
  have BX := BXq
  clear BXq
  have BRq := Lib.hid (BR.out.next hb)
  clear BR
  have BR := BRq
  clear BRq
  have JAq := Lib.hid (JA.out.next hb)
  clear JA
  have JA := JAq
  clear JAq
  clear hb
  clear hW
  have q0 := BX.out.c0
  have q1 := BX.out.c1
  have q2 := BX.out.c2
  have q3 := BX.out.c3
  have q4 := BX.out.c4
  have q5 := BX.out.c5
  have q6 := BX.out.c6
  have q7 := BX.out.c7
  have q8 := BX.out.c8
  have q9 := BX.out.c9
  have q10 := BX.out.c10
  have q11 := BX.out.c11
  have q12 := BX.out.c12
  go_wp2_with fail
  refine (refTime_b TN.out).mono ?_
  rintro e w2 ⟨rfl, hb⟩
  have HBq := Lib.hid (HB.out.trans (hb.mono HB.out.size))
  clear HB
  have HB := HBq
  clear HBq
  have BXq := Lib.hid (BX.out.next hb)
  clear BX
  have BX := BXq
  clear BXq
  have BRq := Lib.hid (BR.out.next hb)
  clear BR
  have BR := BRq
  clear BRq
  have JAq := Lib.hid (JA.out.next hb)
  clear JA
  have JA := JAq
  clear JAq
  clear hb
  clear q0 q1 q2 q3 q4 q5 q6 q7 q8 q9 q10 q11 q12
  have q0 := BX.out.c0
  have q1 := BX.out.c1
  have q2 := BX.out.c2
  have q3 := BX.out.c3
  have q4 := BX.out.c4
  have q5 := BX.out.c5
  have q6 := BX.out.c6
  have q7 := BX.out.c7
  have q8 := BX.out.c8
  have q9 := BX.out.c9
  have q10 := BX.out.c10
  have q11 := BX.out.c11
  have q12 := BX.out.c12
  have p0 := BR.out.c0
  have y0 := BR.out.frozen 0
  have p1 := BR.out.c1
  have y1 := BR.out.frozen 1
  have p2 := BR.out.c2
  have y2 := BR.out.frozen 2
  have p3 := BR.out.c3
  have y3 := BR.out.frozen 3
  have p4 := BR.out.c4
  have y4 := BR.out.frozen 4
  have p5 := BR.out.c5
  have y5 := BR.out.frozen 5
  have p6 := BR.out.c6
  have y6 := BR.out.frozen 6
  have p7 := BR.out.c7
  have y7 := BR.out.frozen 7
  have p8 := BR.out.c8
  have y8 := BR.out.frozen 8
  have p9 := BR.out.c9
  have y9 := BR.out.frozen 9
  have p10 := BR.out.c10
  have y10 := BR.out.frozen 10
  have p11 := BR.out.c11
  have y11 := BR.out.frozen 11
  have p12 := BR.out.c12
  have y12 := BR.out.frozen 12
  go_wp2
  have HBF := below_store (v0 := .int .i64 j.id) (v1 := .int .i64 j.spec.nodes) (v2 := .int .i64 j.spec.cores) (v3 := .int .i64 j.spec.gpus) (v4 := .string j.spec.tag) (v5 := .bool j.spec.whole) (v6 := .int .i64 j.spec.long) (v7 := .int .i64 j.spec.prio) (v8 := .slice A m c) (v9 := .int .i64 j.state) (v10 := .int .i64 j.came) (v11 := .int .i64 j.frm) (v12 := .int .i64 j.to) HB.out (show w.heap.size ≤ w.heap.size + 1 by omega)
  have b1 := BR.out.store j A m c
  have r0 := b1.c0
  have r1 := b1.c1
  have r2 := b1.c2
  have r3 := b1.c3
  have r4 := b1.c4
  have r5 := b1.c5
  have r6 := b1.c6
  have r7 := b1.c7
  have r8 := b1.c8
  have r9 := b1.c9
  have r10 := b1.c10
  have r11 := b1.c11
  have r12 := b1.c12
  refine bodyPost_ret (v := .tuple #[.agg #[.int .i64 j.id, .int .i64 j.spec.nodes, .int .i64 j.spec.cores, .int .i64 j.spec.gpus, .string j.spec.tag, .bool j.spec.whole, .int .i64 j.spec.long, .int .i64 j.spec.prio, .slice A m c, .int .i64 j.state, .int .i64 j.came, .int .i64 j.frm, .int .i64 j.to], .int .i64 1]) (by simp [results, Try.results8, go_sem, r0, r1, r2, r3, r4, r5, r6, r7, r8, r9, r10, r11, r12]) rfl ⟨⟨A, m, c, rfl, JW.out.next HBF⟩, HBF⟩

set_option maxRecDepth 100000 in
set_option maxHeartbeats 8000000 in
theorem refDo_6 (A : Option Addr) (m c : Nat) (j : Jb) (what now : Int) (w : World) (hj : JAsk w A m c j) (hr : rightJ j = true) (h1 : ¬ what < 1) (h2 : ¬ 7 < what) (h3 : timeJ now = true) (h4 : ¬ now < j.came) (h5 : now < j.frm) :
    Calls Try.prog 8 #[.agg #[.int .i64 j.id, .int .i64 j.spec.nodes, .int .i64 j.spec.cores, .int .i64 j.spec.gpus, .string j.spec.tag, .bool j.spec.whole, .int .i64 j.spec.long, .int .i64 j.spec.prio, .slice A m c, .int .i64 j.state, .int .i64 j.came, .int .i64 j.frm, .int .i64 j.to], .int .i64 what, .int .i64 now] w (JPost j 1 w) := by
  obtain ⟨W, hW⟩ : ∃ W, W = (w.alloc (jO j A m c)).alloc (jO jb0 none 0 0) := ⟨_, rfl⟩
  have BX : Hid (BoxJ W w.heap.size j A m c) := Lib.hid (by rw [hW]; exact (boxJ_new w j A m c).next ((Below.refl _ _).alloc (Nat.le_refl _) _))
  have BR : Hid (BoxJ W (w.heap.size + 1) jb0 none 0 0) := Lib.hid (by
    have := boxJ_new (w.alloc (jO j A m c)) jb0 none 0 0
    rw [show (w.alloc (jO j A m c)).heap.size = w.heap.size + 1 by simp] at this
    rw [hW]; exact this)
  have hb0 : Below w.heap.size w W := by rw [hW]; exact ((Below.refl _ _).alloc (Nat.le_refl _) _).alloc (by simp) _
  have HB := Lib.hid hb0
  have JA := Lib.hid (hj.next hb0)
  have JW := Lib.hid hj
  unfold jO at hW
  simp only [jb0, sp0] at hW
  clear hb0
  have RJ := Lib.hid hr
  have d1 : decide (what < 1) = false := decide_eq_false h1
  have d2 : decide (7 < what) = false := decide_eq_false h2
  have TN := Lib.hid h3
  have d4 : decide (now < j.came) = false := decide_eq_false h4
  have d5 : decide (now < j.frm) = true := decide_eq_true h5
  clear hj hr h1 h2 h3 h4 h5
  go_enter Try.func8, Try.ntmps8
  go_wp2_with fail
  rw [← hW]
  refine (refRightJ_b JA.out RJ.out).mono ?_
  rintro e w1 ⟨rfl, hb⟩
  have HBq := Lib.hid (HB.out.trans (hb.mono HB.out.size))
  clear HB
  have HB := HBq
  clear HBq
  have BXq := Lib.hid (BX.out.next hb)
  clear BX
  have BX := BXq
  clear BXq
  have BRq := Lib.hid (BR.out.next hb)
  clear BR
  have BR := BRq
  clear BRq
  have JAq := Lib.hid (JA.out.next hb)
  clear JA
  have JA := JAq
  clear JAq
  clear hb
  clear hW
  have q0 := BX.out.c0
  have q1 := BX.out.c1
  have q2 := BX.out.c2
  have q3 := BX.out.c3
  have q4 := BX.out.c4
  have q5 := BX.out.c5
  have q6 := BX.out.c6
  have q7 := BX.out.c7
  have q8 := BX.out.c8
  have q9 := BX.out.c9
  have q10 := BX.out.c10
  have q11 := BX.out.c11
  have q12 := BX.out.c12
  go_wp2_with fail
  refine (refTime_b TN.out).mono ?_
  rintro e w2 ⟨rfl, hb⟩
  have HBq := Lib.hid (HB.out.trans (hb.mono HB.out.size))
  clear HB
  have HB := HBq
  clear HBq
  have BXq := Lib.hid (BX.out.next hb)
  clear BX
  have BX := BXq
  clear BXq
  have BRq := Lib.hid (BR.out.next hb)
  clear BR
  have BR := BRq
  clear BRq
  have JAq := Lib.hid (JA.out.next hb)
  clear JA
  have JA := JAq
  clear JAq
  clear hb
  clear q0 q1 q2 q3 q4 q5 q6 q7 q8 q9 q10 q11 q12
  have q0 := BX.out.c0
  have q1 := BX.out.c1
  have q2 := BX.out.c2
  have q3 := BX.out.c3
  have q4 := BX.out.c4
  have q5 := BX.out.c5
  have q6 := BX.out.c6
  have q7 := BX.out.c7
  have q8 := BX.out.c8
  have q9 := BX.out.c9
  have q10 := BX.out.c10
  have q11 := BX.out.c11
  have q12 := BX.out.c12
  have p0 := BR.out.c0
  have y0 := BR.out.frozen 0
  have p1 := BR.out.c1
  have y1 := BR.out.frozen 1
  have p2 := BR.out.c2
  have y2 := BR.out.frozen 2
  have p3 := BR.out.c3
  have y3 := BR.out.frozen 3
  have p4 := BR.out.c4
  have y4 := BR.out.frozen 4
  have p5 := BR.out.c5
  have y5 := BR.out.frozen 5
  have p6 := BR.out.c6
  have y6 := BR.out.frozen 6
  have p7 := BR.out.c7
  have y7 := BR.out.frozen 7
  have p8 := BR.out.c8
  have y8 := BR.out.frozen 8
  have p9 := BR.out.c9
  have y9 := BR.out.frozen 9
  have p10 := BR.out.c10
  have y10 := BR.out.frozen 10
  have p11 := BR.out.c11
  have y11 := BR.out.frozen 11
  have p12 := BR.out.c12
  have y12 := BR.out.frozen 12
  go_wp2
  have HBF := below_store (v0 := .int .i64 j.id) (v1 := .int .i64 j.spec.nodes) (v2 := .int .i64 j.spec.cores) (v3 := .int .i64 j.spec.gpus) (v4 := .string j.spec.tag) (v5 := .bool j.spec.whole) (v6 := .int .i64 j.spec.long) (v7 := .int .i64 j.spec.prio) (v8 := .slice A m c) (v9 := .int .i64 j.state) (v10 := .int .i64 j.came) (v11 := .int .i64 j.frm) (v12 := .int .i64 j.to) HB.out (show w.heap.size ≤ w.heap.size + 1 by omega)
  have b1 := BR.out.store j A m c
  have r0 := b1.c0
  have r1 := b1.c1
  have r2 := b1.c2
  have r3 := b1.c3
  have r4 := b1.c4
  have r5 := b1.c5
  have r6 := b1.c6
  have r7 := b1.c7
  have r8 := b1.c8
  have r9 := b1.c9
  have r10 := b1.c10
  have r11 := b1.c11
  have r12 := b1.c12
  refine bodyPost_ret (v := .tuple #[.agg #[.int .i64 j.id, .int .i64 j.spec.nodes, .int .i64 j.spec.cores, .int .i64 j.spec.gpus, .string j.spec.tag, .bool j.spec.whole, .int .i64 j.spec.long, .int .i64 j.spec.prio, .slice A m c, .int .i64 j.state, .int .i64 j.came, .int .i64 j.frm, .int .i64 j.to], .int .i64 1]) (by simp [results, Try.results8, go_sem, r0, r1, r2, r3, r4, r5, r6, r7, r8, r9, r10, r11, r12]) rfl ⟨⟨A, m, c, rfl, JW.out.next HBF⟩, HBF⟩

set_option maxRecDepth 100000 in
set_option maxHeartbeats 8000000 in
theorem refDo_7 (A : Option Addr) (m c : Nat) (j : Jb) (what now : Int) (w : World) (hj : JAsk w A m c j) (hr : rightJ j = true) (h1 : ¬ what < 1) (h2 : ¬ 7 < what) (h3 : timeJ now = true) (h4 : ¬ now < j.came) (h5 : ¬ now < j.frm) (s : Int) (hs : nextZ j.state what = s) (h6 : s < 0) :
    Calls Try.prog 8 #[.agg #[.int .i64 j.id, .int .i64 j.spec.nodes, .int .i64 j.spec.cores, .int .i64 j.spec.gpus, .string j.spec.tag, .bool j.spec.whole, .int .i64 j.spec.long, .int .i64 j.spec.prio, .slice A m c, .int .i64 j.state, .int .i64 j.came, .int .i64 j.frm, .int .i64 j.to], .int .i64 what, .int .i64 now] w (JPost j 8 w) := by
  obtain ⟨W, hW⟩ : ∃ W, W = (w.alloc (jO j A m c)).alloc (jO jb0 none 0 0) := ⟨_, rfl⟩
  have BX : Hid (BoxJ W w.heap.size j A m c) := Lib.hid (by rw [hW]; exact (boxJ_new w j A m c).next ((Below.refl _ _).alloc (Nat.le_refl _) _))
  have BR : Hid (BoxJ W (w.heap.size + 1) jb0 none 0 0) := Lib.hid (by
    have := boxJ_new (w.alloc (jO j A m c)) jb0 none 0 0
    rw [show (w.alloc (jO j A m c)).heap.size = w.heap.size + 1 by simp] at this
    rw [hW]; exact this)
  have hb0 : Below w.heap.size w W := by rw [hW]; exact ((Below.refl _ _).alloc (Nat.le_refl _) _).alloc (by simp) _
  have HB := Lib.hid hb0
  have JA := Lib.hid (hj.next hb0)
  have JW := Lib.hid hj
  unfold jO at hW
  simp only [jb0, sp0] at hW
  clear hb0
  have RJ := Lib.hid hr
  have d1 : decide (what < 1) = false := decide_eq_false h1
  have d2 : decide (7 < what) = false := decide_eq_false h2
  have TN := Lib.hid h3
  have d4 : decide (now < j.came) = false := decide_eq_false h4
  have d5 : decide (now < j.frm) = false := decide_eq_false h5
  have hrj := (of_decide_eq_true hr).2.2.1.1
  have hs1 : 0 ≤ j.state := hrj.1
  have hs2 : j.state ≤ 6 := hrj.2
  have hw1 : 1 ≤ what := by omega
  have hw2 : what ≤ 7 := by omega
  have NX := Lib.hid hs
  have d6 : decide (s < 0) = true := decide_eq_true h6
  clear hj hr h1 h2 h3 h4 h5 hs hrj h6
  go_enter Try.func8, Try.ntmps8
  go_wp2_with fail
  rw [← hW]
  refine (refRightJ_b JA.out RJ.out).mono ?_
  rintro e w1 ⟨rfl, hb⟩
  have HBq := Lib.hid (HB.out.trans (hb.mono HB.out.size))
  clear HB
  have HB := HBq
  clear HBq
  have BXq := Lib.hid (BX.out.next hb)
  clear BX
  have BX := BXq
  clear BXq
  have BRq := Lib.hid (BR.out.next hb)
  clear BR
  have BR := BRq
  clear BRq
  have JAq := Lib.hid (JA.out.next hb)
  clear JA
  have JA := JAq
  clear JAq
  clear hb
  clear hW
  have q0 := BX.out.c0
  have q1 := BX.out.c1
  have q2 := BX.out.c2
  have q3 := BX.out.c3
  have q4 := BX.out.c4
  have q5 := BX.out.c5
  have q6 := BX.out.c6
  have q7 := BX.out.c7
  have q8 := BX.out.c8
  have q9 := BX.out.c9
  have q10 := BX.out.c10
  have q11 := BX.out.c11
  have q12 := BX.out.c12
  go_wp2_with fail
  refine (refTime_b TN.out).mono ?_
  rintro e w2 ⟨rfl, hb⟩
  have HBq := Lib.hid (HB.out.trans (hb.mono HB.out.size))
  clear HB
  have HB := HBq
  clear HBq
  have BXq := Lib.hid (BX.out.next hb)
  clear BX
  have BX := BXq
  clear BXq
  have BRq := Lib.hid (BR.out.next hb)
  clear BR
  have BR := BRq
  clear BRq
  have JAq := Lib.hid (JA.out.next hb)
  clear JA
  have JA := JAq
  clear JAq
  clear hb
  clear q0 q1 q2 q3 q4 q5 q6 q7 q8 q9 q10 q11 q12
  have q0 := BX.out.c0
  have q1 := BX.out.c1
  have q2 := BX.out.c2
  have q3 := BX.out.c3
  have q4 := BX.out.c4
  have q5 := BX.out.c5
  have q6 := BX.out.c6
  have q7 := BX.out.c7
  have q8 := BX.out.c8
  have q9 := BX.out.c9
  have q10 := BX.out.c10
  have q11 := BX.out.c11
  have q12 := BX.out.c12
  go_wp2_with fail
  refine (refNext_any hs1 hs2 hw1 hw2 NX.out).mono ?_
  rintro e w3 ⟨rfl, hb⟩
  have HBq := Lib.hid (HB.out.trans (hb.mono HB.out.size))
  clear HB
  have HB := HBq
  clear HBq
  have BXq := Lib.hid (BX.out.next hb)
  clear BX
  have BX := BXq
  clear BXq
  have BRq := Lib.hid (BR.out.next hb)
  clear BR
  have BR := BRq
  clear BRq
  have JAq := Lib.hid (JA.out.next hb)
  clear JA
  have JA := JAq
  clear JAq
  clear hb
  clear q0 q1 q2 q3 q4 q5 q6 q7 q8 q9 q10 q11 q12
  have q0 := BX.out.c0
  have q1 := BX.out.c1
  have q2 := BX.out.c2
  have q3 := BX.out.c3
  have q4 := BX.out.c4
  have q5 := BX.out.c5
  have q6 := BX.out.c6
  have q7 := BX.out.c7
  have q8 := BX.out.c8
  have q9 := BX.out.c9
  have q10 := BX.out.c10
  have q11 := BX.out.c11
  have q12 := BX.out.c12
  have p0 := BR.out.c0
  have y0 := BR.out.frozen 0
  have p1 := BR.out.c1
  have y1 := BR.out.frozen 1
  have p2 := BR.out.c2
  have y2 := BR.out.frozen 2
  have p3 := BR.out.c3
  have y3 := BR.out.frozen 3
  have p4 := BR.out.c4
  have y4 := BR.out.frozen 4
  have p5 := BR.out.c5
  have y5 := BR.out.frozen 5
  have p6 := BR.out.c6
  have y6 := BR.out.frozen 6
  have p7 := BR.out.c7
  have y7 := BR.out.frozen 7
  have p8 := BR.out.c8
  have y8 := BR.out.frozen 8
  have p9 := BR.out.c9
  have y9 := BR.out.frozen 9
  have p10 := BR.out.c10
  have y10 := BR.out.frozen 10
  have p11 := BR.out.c11
  have y11 := BR.out.frozen 11
  have p12 := BR.out.c12
  have y12 := BR.out.frozen 12
  go_wp2
  have HBF := below_store (v0 := .int .i64 j.id) (v1 := .int .i64 j.spec.nodes) (v2 := .int .i64 j.spec.cores) (v3 := .int .i64 j.spec.gpus) (v4 := .string j.spec.tag) (v5 := .bool j.spec.whole) (v6 := .int .i64 j.spec.long) (v7 := .int .i64 j.spec.prio) (v8 := .slice A m c) (v9 := .int .i64 j.state) (v10 := .int .i64 j.came) (v11 := .int .i64 j.frm) (v12 := .int .i64 j.to) HB.out (show w.heap.size ≤ w.heap.size + 1 by omega)
  have b1 := BR.out.store j A m c
  have r0 := b1.c0
  have r1 := b1.c1
  have r2 := b1.c2
  have r3 := b1.c3
  have r4 := b1.c4
  have r5 := b1.c5
  have r6 := b1.c6
  have r7 := b1.c7
  have r8 := b1.c8
  have r9 := b1.c9
  have r10 := b1.c10
  have r11 := b1.c11
  have r12 := b1.c12
  refine bodyPost_ret (v := .tuple #[.agg #[.int .i64 j.id, .int .i64 j.spec.nodes, .int .i64 j.spec.cores, .int .i64 j.spec.gpus, .string j.spec.tag, .bool j.spec.whole, .int .i64 j.spec.long, .int .i64 j.spec.prio, .slice A m c, .int .i64 j.state, .int .i64 j.came, .int .i64 j.frm, .int .i64 j.to], .int .i64 8]) (by simp [results, Try.results8, go_sem, r0, r1, r2, r3, r4, r5, r6, r7, r8, r9, r10, r11, r12]) rfl ⟨⟨A, m, c, rfl, JW.out.next HBF⟩, HBF⟩

set_option maxRecDepth 100000 in
set_option maxHeartbeats 8000000 in
theorem refDo_8 (A : Option Addr) (m c : Nat) (j : Jb) (what now : Int) (w : World) (hj : JAsk w A m c j) (hn : I64 now) (hr : rightJ j = true) (h1 : ¬ what < 1) (h2 : ¬ 7 < what) (h3 : timeJ now = true) (h4 : ¬ now < j.came) (h5 : ¬ now < j.frm) (s : Int) (hs : nextZ j.state what = s) (h6 : ¬ s < 0) (h7 : s < 2) :
    Calls Try.prog 8 #[.agg #[.int .i64 j.id, .int .i64 j.spec.nodes, .int .i64 j.spec.cores, .int .i64 j.spec.gpus, .string j.spec.tag, .bool j.spec.whole, .int .i64 j.spec.long, .int .i64 j.spec.prio, .slice A m c, .int .i64 j.state, .int .i64 j.came, .int .i64 j.frm, .int .i64 j.to], .int .i64 what, .int .i64 now] w (JPost ⟨j.id, j.spec, j.needs, s, j.came, j.frm, j.to⟩ 0 w) := by
  obtain ⟨W, hW⟩ : ∃ W, W = (w.alloc (jO j A m c)).alloc (jO jb0 none 0 0) := ⟨_, rfl⟩
  have BX : Hid (BoxJ W w.heap.size j A m c) := Lib.hid (by rw [hW]; exact (boxJ_new w j A m c).next ((Below.refl _ _).alloc (Nat.le_refl _) _))
  have BR : Hid (BoxJ W (w.heap.size + 1) jb0 none 0 0) := Lib.hid (by
    have := boxJ_new (w.alloc (jO j A m c)) jb0 none 0 0
    rw [show (w.alloc (jO j A m c)).heap.size = w.heap.size + 1 by simp] at this
    rw [hW]; exact this)
  have hb0 : Below w.heap.size w W := by rw [hW]; exact ((Below.refl _ _).alloc (Nat.le_refl _) _).alloc (by simp) _
  have HB := Lib.hid hb0
  have JA := Lib.hid (hj.next hb0)
  have JW := Lib.hid hj
  unfold jO at hW
  simp only [jb0, sp0] at hW
  clear hb0
  have RJ := Lib.hid hr
  have d1 : decide (what < 1) = false := decide_eq_false h1
  have d2 : decide (7 < what) = false := decide_eq_false h2
  have TN := Lib.hid h3
  have d4 : decide (now < j.came) = false := decide_eq_false h4
  have d5 : decide (now < j.frm) = false := decide_eq_false h5
  have hrj := (of_decide_eq_true hr).2.2.1.1
  have hs1 : 0 ≤ j.state := hrj.1
  have hs2 : j.state ≤ 6 := hrj.2
  have hw1 : 1 ≤ what := by omega
  have hw2 : what ≤ 7 := by omega
  have NX := Lib.hid hs
  have d6 : decide (s < 0) = false := decide_eq_false h6
  have hrg := next_range j.state what
  rw [hs] at hrg
  have HI0 : Hid (I64 s) := Lib.hid (by unfold I64; omega)
  have HI1 : Hid (I64 j.frm) := Lib.hid hj.int.2.2.2.1
  have HI2 : Hid (I64 j.to) := Lib.hid hj.int.2.2.2.2.1
  have d7 : (s == 2) = false := by rw [beq_eq_false_iff_ne]; omega
  have d8 : decide (2 < s) = false := decide_eq_false (by omega)
  have HNN := Lib.hid hn
  clear hj hn hr h1 h2 h3 h4 h5 hs hrj h6 h7 hrg
  go_enter Try.func8, Try.ntmps8
  go_wp2_with fail
  rw [← hW]
  refine (refRightJ_b JA.out RJ.out).mono ?_
  rintro e w1 ⟨rfl, hb⟩
  have HBq := Lib.hid (HB.out.trans (hb.mono HB.out.size))
  clear HB
  have HB := HBq
  clear HBq
  have BXq := Lib.hid (BX.out.next hb)
  clear BX
  have BX := BXq
  clear BXq
  have BRq := Lib.hid (BR.out.next hb)
  clear BR
  have BR := BRq
  clear BRq
  have JAq := Lib.hid (JA.out.next hb)
  clear JA
  have JA := JAq
  clear JAq
  clear hb
  clear hW
  have q0 := BX.out.c0
  have q1 := BX.out.c1
  have q2 := BX.out.c2
  have q3 := BX.out.c3
  have q4 := BX.out.c4
  have q5 := BX.out.c5
  have q6 := BX.out.c6
  have q7 := BX.out.c7
  have q8 := BX.out.c8
  have q9 := BX.out.c9
  have q10 := BX.out.c10
  have q11 := BX.out.c11
  have q12 := BX.out.c12
  go_wp2_with fail
  refine (refTime_b TN.out).mono ?_
  rintro e w2 ⟨rfl, hb⟩
  have HBq := Lib.hid (HB.out.trans (hb.mono HB.out.size))
  clear HB
  have HB := HBq
  clear HBq
  have BXq := Lib.hid (BX.out.next hb)
  clear BX
  have BX := BXq
  clear BXq
  have BRq := Lib.hid (BR.out.next hb)
  clear BR
  have BR := BRq
  clear BRq
  have JAq := Lib.hid (JA.out.next hb)
  clear JA
  have JA := JAq
  clear JAq
  clear hb
  clear q0 q1 q2 q3 q4 q5 q6 q7 q8 q9 q10 q11 q12
  have q0 := BX.out.c0
  have q1 := BX.out.c1
  have q2 := BX.out.c2
  have q3 := BX.out.c3
  have q4 := BX.out.c4
  have q5 := BX.out.c5
  have q6 := BX.out.c6
  have q7 := BX.out.c7
  have q8 := BX.out.c8
  have q9 := BX.out.c9
  have q10 := BX.out.c10
  have q11 := BX.out.c11
  have q12 := BX.out.c12
  go_wp2_with fail
  refine (refNext_any hs1 hs2 hw1 hw2 NX.out).mono ?_
  rintro e w3 ⟨rfl, hb⟩
  have HBq := Lib.hid (HB.out.trans (hb.mono HB.out.size))
  clear HB
  have HB := HBq
  clear HBq
  have BXq := Lib.hid (BX.out.next hb)
  clear BX
  have BX := BXq
  clear BXq
  have BRq := Lib.hid (BR.out.next hb)
  clear BR
  have BR := BRq
  clear BRq
  have JAq := Lib.hid (JA.out.next hb)
  clear JA
  have JA := JAq
  clear JAq
  clear hb
  clear q0 q1 q2 q3 q4 q5 q6 q7 q8 q9 q10 q11 q12
  have q0 := BX.out.c0
  have q1 := BX.out.c1
  have q2 := BX.out.c2
  have q3 := BX.out.c3
  have q4 := BX.out.c4
  have q5 := BX.out.c5
  have q6 := BX.out.c6
  have q7 := BX.out.c7
  have q8 := BX.out.c8
  have q9 := BX.out.c9
  have q10 := BX.out.c10
  have q11 := BX.out.c11
  have q12 := BX.out.c12
  have y9' := BX.out.frozen 9
  have X0 := BX.out.set (j' := ⟨j.id, j.spec, j.needs, s, j.came, j.frm, j.to⟩) (A' := A) (m' := m) (c' := c) (k := 9) (v := .int .i64 s) (by kernel_rfl)
  have R0 := BR.out.other (g' := w.heap.size) (k := 9) (v := .int .i64 s) (by omega)
  have s0 := X0.c0
  have s1 := X0.c1
  have s2 := X0.c2
  have s3 := X0.c3
  have s4 := X0.c4
  have s5 := X0.c5
  have s6 := X0.c6
  have s7 := X0.c7
  have s8 := X0.c8
  have s9 := X0.c9
  have s10 := X0.c10
  have s11 := X0.c11
  have s12 := X0.c12
  have p0 := R0.c0
  have y0 := R0.frozen 0
  have p1 := R0.c1
  have y1 := R0.frozen 1
  have p2 := R0.c2
  have y2 := R0.frozen 2
  have p3 := R0.c3
  have y3 := R0.frozen 3
  have p4 := R0.c4
  have y4 := R0.frozen 4
  have p5 := R0.c5
  have y5 := R0.frozen 5
  have p6 := R0.c6
  have y6 := R0.frozen 6
  have p7 := R0.c7
  have y7 := R0.frozen 7
  have p8 := R0.c8
  have y8 := R0.frozen 8
  have p9 := R0.c9
  have y9 := R0.frozen 9
  have p10 := R0.c10
  have y10 := R0.frozen 10
  have p11 := R0.c11
  have y11 := R0.frozen 11
  have p12 := R0.c12
  have y12 := R0.frozen 12
  go_wp2
  have HBF := below_store (v0 := .int .i64 j.id) (v1 := .int .i64 j.spec.nodes) (v2 := .int .i64 j.spec.cores) (v3 := .int .i64 j.spec.gpus) (v4 := .string j.spec.tag) (v5 := .bool j.spec.whole) (v6 := .int .i64 j.spec.long) (v7 := .int .i64 j.spec.prio) (v8 := .slice A m c) (v9 := .int .i64 s) (v10 := .int .i64 j.came) (v11 := .int .i64 j.frm) (v12 := .int .i64 j.to) (HB.out.setCell (p := ⟨w.heap.size, 9, none⟩) (Nat.le_refl _) (.int .i64 s)) (show w.heap.size ≤ w.heap.size + 1 by omega)
  have b1 := R0.store ⟨j.id, j.spec, j.needs, s, j.came, j.frm, j.to⟩ A m c
  have r0 := b1.c0
  have r1 := b1.c1
  have r2 := b1.c2
  have r3 := b1.c3
  have r4 := b1.c4
  have r5 := b1.c5
  have r6 := b1.c6
  have r7 := b1.c7
  have r8 := b1.c8
  have r9 := b1.c9
  have r10 := b1.c10
  have r11 := b1.c11
  have r12 := b1.c12
  refine bodyPost_ret (v := .tuple #[.agg #[.int .i64 j.id, .int .i64 j.spec.nodes, .int .i64 j.spec.cores, .int .i64 j.spec.gpus, .string j.spec.tag, .bool j.spec.whole, .int .i64 j.spec.long, .int .i64 j.spec.prio, .slice A m c, .int .i64 s, .int .i64 j.came, .int .i64 j.frm, .int .i64 j.to], .int .i64 0]) (by simp [results, Try.results8, go_sem, r0, r1, r2, r3, r4, r5, r6, r7, r8, r9, r10, r11, r12]) rfl ⟨⟨A, m, c, rfl, jAsk_turn (JW.out.next HBF) HI0.out HI1.out HI2.out⟩, HBF⟩

set_option maxRecDepth 100000 in
set_option maxHeartbeats 8000000 in
theorem refDo_9 (A : Option Addr) (m c : Nat) (j : Jb) (what now : Int) (w : World) (hj : JAsk w A m c j) (hn : I64 now) (hr : rightJ j = true) (h1 : ¬ what < 1) (h2 : ¬ 7 < what) (h3 : timeJ now = true) (h4 : ¬ now < j.came) (h5 : ¬ now < j.frm) (s : Int) (hs : nextZ j.state what = s) (h6 : ¬ s < 0) (h7 : s = 2) :
    Calls Try.prog 8 #[.agg #[.int .i64 j.id, .int .i64 j.spec.nodes, .int .i64 j.spec.cores, .int .i64 j.spec.gpus, .string j.spec.tag, .bool j.spec.whole, .int .i64 j.spec.long, .int .i64 j.spec.prio, .slice A m c, .int .i64 j.state, .int .i64 j.came, .int .i64 j.frm, .int .i64 j.to], .int .i64 what, .int .i64 now] w (JPost ⟨j.id, j.spec, j.needs, s, j.came, now, j.to⟩ 0 w) := by
  obtain ⟨W, hW⟩ : ∃ W, W = (w.alloc (jO j A m c)).alloc (jO jb0 none 0 0) := ⟨_, rfl⟩
  have BX : Hid (BoxJ W w.heap.size j A m c) := Lib.hid (by rw [hW]; exact (boxJ_new w j A m c).next ((Below.refl _ _).alloc (Nat.le_refl _) _))
  have BR : Hid (BoxJ W (w.heap.size + 1) jb0 none 0 0) := Lib.hid (by
    have := boxJ_new (w.alloc (jO j A m c)) jb0 none 0 0
    rw [show (w.alloc (jO j A m c)).heap.size = w.heap.size + 1 by simp] at this
    rw [hW]; exact this)
  have hb0 : Below w.heap.size w W := by rw [hW]; exact ((Below.refl _ _).alloc (Nat.le_refl _) _).alloc (by simp) _
  have HB := Lib.hid hb0
  have JA := Lib.hid (hj.next hb0)
  have JW := Lib.hid hj
  unfold jO at hW
  simp only [jb0, sp0] at hW
  clear hb0
  have RJ := Lib.hid hr
  have d1 : decide (what < 1) = false := decide_eq_false h1
  have d2 : decide (7 < what) = false := decide_eq_false h2
  have TN := Lib.hid h3
  have d4 : decide (now < j.came) = false := decide_eq_false h4
  have d5 : decide (now < j.frm) = false := decide_eq_false h5
  have hrj := (of_decide_eq_true hr).2.2.1.1
  have hs1 : 0 ≤ j.state := hrj.1
  have hs2 : j.state ≤ 6 := hrj.2
  have hw1 : 1 ≤ what := by omega
  have hw2 : what ≤ 7 := by omega
  have NX := Lib.hid hs
  have d6 : decide (s < 0) = false := decide_eq_false h6
  have hrg := next_range j.state what
  rw [hs] at hrg
  have HI0 : Hid (I64 s) := Lib.hid (by unfold I64; omega)
  have HI1 : Hid (I64 now) := Lib.hid hn
  have HI2 : Hid (I64 j.to) := Lib.hid hj.int.2.2.2.2.1
  have d7 : (s == 2) = true := by rw [beq_iff_eq]; exact h7
  have d8 : decide (2 < s) = false := decide_eq_false (by omega)
  have HNN := Lib.hid hn
  clear hj hn hr h1 h2 h3 h4 h5 hs hrj h6 h7 hrg
  go_enter Try.func8, Try.ntmps8
  go_wp2_with fail
  rw [← hW]
  refine (refRightJ_b JA.out RJ.out).mono ?_
  rintro e w1 ⟨rfl, hb⟩
  have HBq := Lib.hid (HB.out.trans (hb.mono HB.out.size))
  clear HB
  have HB := HBq
  clear HBq
  have BXq := Lib.hid (BX.out.next hb)
  clear BX
  have BX := BXq
  clear BXq
  have BRq := Lib.hid (BR.out.next hb)
  clear BR
  have BR := BRq
  clear BRq
  have JAq := Lib.hid (JA.out.next hb)
  clear JA
  have JA := JAq
  clear JAq
  clear hb
  clear hW
  have q0 := BX.out.c0
  have q1 := BX.out.c1
  have q2 := BX.out.c2
  have q3 := BX.out.c3
  have q4 := BX.out.c4
  have q5 := BX.out.c5
  have q6 := BX.out.c6
  have q7 := BX.out.c7
  have q8 := BX.out.c8
  have q9 := BX.out.c9
  have q10 := BX.out.c10
  have q11 := BX.out.c11
  have q12 := BX.out.c12
  go_wp2_with fail
  refine (refTime_b TN.out).mono ?_
  rintro e w2 ⟨rfl, hb⟩
  have HBq := Lib.hid (HB.out.trans (hb.mono HB.out.size))
  clear HB
  have HB := HBq
  clear HBq
  have BXq := Lib.hid (BX.out.next hb)
  clear BX
  have BX := BXq
  clear BXq
  have BRq := Lib.hid (BR.out.next hb)
  clear BR
  have BR := BRq
  clear BRq
  have JAq := Lib.hid (JA.out.next hb)
  clear JA
  have JA := JAq
  clear JAq
  clear hb
  clear q0 q1 q2 q3 q4 q5 q6 q7 q8 q9 q10 q11 q12
  have q0 := BX.out.c0
  have q1 := BX.out.c1
  have q2 := BX.out.c2
  have q3 := BX.out.c3
  have q4 := BX.out.c4
  have q5 := BX.out.c5
  have q6 := BX.out.c6
  have q7 := BX.out.c7
  have q8 := BX.out.c8
  have q9 := BX.out.c9
  have q10 := BX.out.c10
  have q11 := BX.out.c11
  have q12 := BX.out.c12
  go_wp2_with fail
  refine (refNext_any hs1 hs2 hw1 hw2 NX.out).mono ?_
  rintro e w3 ⟨rfl, hb⟩
  have HBq := Lib.hid (HB.out.trans (hb.mono HB.out.size))
  clear HB
  have HB := HBq
  clear HBq
  have BXq := Lib.hid (BX.out.next hb)
  clear BX
  have BX := BXq
  clear BXq
  have BRq := Lib.hid (BR.out.next hb)
  clear BR
  have BR := BRq
  clear BRq
  have JAq := Lib.hid (JA.out.next hb)
  clear JA
  have JA := JAq
  clear JAq
  clear hb
  clear q0 q1 q2 q3 q4 q5 q6 q7 q8 q9 q10 q11 q12
  have q0 := BX.out.c0
  have q1 := BX.out.c1
  have q2 := BX.out.c2
  have q3 := BX.out.c3
  have q4 := BX.out.c4
  have q5 := BX.out.c5
  have q6 := BX.out.c6
  have q7 := BX.out.c7
  have q8 := BX.out.c8
  have q9 := BX.out.c9
  have q10 := BX.out.c10
  have q11 := BX.out.c11
  have q12 := BX.out.c12
  have y9' := BX.out.frozen 9
  have X0 := BX.out.set (j' := ⟨j.id, j.spec, j.needs, s, j.came, j.frm, j.to⟩) (A' := A) (m' := m) (c' := c) (k := 9) (v := .int .i64 s) (by kernel_rfl)
  have R0 := BR.out.other (g' := w.heap.size) (k := 9) (v := .int .i64 s) (by omega)
  have z0 := X0.frozen 11
  have zc0 := X0.c11
  have X1 := X0.set (j' := ⟨j.id, j.spec, j.needs, s, j.came, now, j.to⟩) (A' := A) (m' := m) (c' := c) (k := 11) (v := .int .i64 now) (by kernel_rfl)
  have R1 := R0.other (g' := w.heap.size) (k := 11) (v := .int .i64 now) (by omega)
  have s0 := X1.c0
  have s1 := X1.c1
  have s2 := X1.c2
  have s3 := X1.c3
  have s4 := X1.c4
  have s5 := X1.c5
  have s6 := X1.c6
  have s7 := X1.c7
  have s8 := X1.c8
  have s9 := X1.c9
  have s10 := X1.c10
  have s11 := X1.c11
  have s12 := X1.c12
  have p0 := R1.c0
  have y0 := R1.frozen 0
  have p1 := R1.c1
  have y1 := R1.frozen 1
  have p2 := R1.c2
  have y2 := R1.frozen 2
  have p3 := R1.c3
  have y3 := R1.frozen 3
  have p4 := R1.c4
  have y4 := R1.frozen 4
  have p5 := R1.c5
  have y5 := R1.frozen 5
  have p6 := R1.c6
  have y6 := R1.frozen 6
  have p7 := R1.c7
  have y7 := R1.frozen 7
  have p8 := R1.c8
  have y8 := R1.frozen 8
  have p9 := R1.c9
  have y9 := R1.frozen 9
  have p10 := R1.c10
  have y10 := R1.frozen 10
  have p11 := R1.c11
  have y11 := R1.frozen 11
  have p12 := R1.c12
  have y12 := R1.frozen 12
  go_wp2
  have HBF := below_store (v0 := .int .i64 j.id) (v1 := .int .i64 j.spec.nodes) (v2 := .int .i64 j.spec.cores) (v3 := .int .i64 j.spec.gpus) (v4 := .string j.spec.tag) (v5 := .bool j.spec.whole) (v6 := .int .i64 j.spec.long) (v7 := .int .i64 j.spec.prio) (v8 := .slice A m c) (v9 := .int .i64 s) (v10 := .int .i64 j.came) (v11 := .int .i64 now) (v12 := .int .i64 j.to) ((HB.out.setCell (p := ⟨w.heap.size, 9, none⟩) (Nat.le_refl _) (.int .i64 s)).setCell (p := ⟨w.heap.size, 11, none⟩) (Nat.le_refl _) (.int .i64 now)) (show w.heap.size ≤ w.heap.size + 1 by omega)
  have b1 := R1.store ⟨j.id, j.spec, j.needs, s, j.came, now, j.to⟩ A m c
  have r0 := b1.c0
  have r1 := b1.c1
  have r2 := b1.c2
  have r3 := b1.c3
  have r4 := b1.c4
  have r5 := b1.c5
  have r6 := b1.c6
  have r7 := b1.c7
  have r8 := b1.c8
  have r9 := b1.c9
  have r10 := b1.c10
  have r11 := b1.c11
  have r12 := b1.c12
  refine bodyPost_ret (v := .tuple #[.agg #[.int .i64 j.id, .int .i64 j.spec.nodes, .int .i64 j.spec.cores, .int .i64 j.spec.gpus, .string j.spec.tag, .bool j.spec.whole, .int .i64 j.spec.long, .int .i64 j.spec.prio, .slice A m c, .int .i64 s, .int .i64 j.came, .int .i64 now, .int .i64 j.to], .int .i64 0]) (by simp [results, Try.results8, go_sem, r0, r1, r2, r3, r4, r5, r6, r7, r8, r9, r10, r11, r12]) rfl ⟨⟨A, m, c, rfl, jAsk_turn (JW.out.next HBF) HI0.out HI1.out HI2.out⟩, HBF⟩

set_option maxRecDepth 100000 in
set_option maxHeartbeats 8000000 in
theorem refDo_10 (A : Option Addr) (m c : Nat) (j : Jb) (what now : Int) (w : World) (hj : JAsk w A m c j) (hn : I64 now) (hr : rightJ j = true) (h1 : ¬ what < 1) (h2 : ¬ 7 < what) (h3 : timeJ now = true) (h4 : ¬ now < j.came) (h5 : ¬ now < j.frm) (s : Int) (hs : nextZ j.state what = s) (h6 : ¬ s < 0) (h7 : 2 < s) :
    Calls Try.prog 8 #[.agg #[.int .i64 j.id, .int .i64 j.spec.nodes, .int .i64 j.spec.cores, .int .i64 j.spec.gpus, .string j.spec.tag, .bool j.spec.whole, .int .i64 j.spec.long, .int .i64 j.spec.prio, .slice A m c, .int .i64 j.state, .int .i64 j.came, .int .i64 j.frm, .int .i64 j.to], .int .i64 what, .int .i64 now] w (JPost ⟨j.id, j.spec, j.needs, s, j.came, j.frm, now⟩ 0 w) := by
  obtain ⟨W, hW⟩ : ∃ W, W = (w.alloc (jO j A m c)).alloc (jO jb0 none 0 0) := ⟨_, rfl⟩
  have BX : Hid (BoxJ W w.heap.size j A m c) := Lib.hid (by rw [hW]; exact (boxJ_new w j A m c).next ((Below.refl _ _).alloc (Nat.le_refl _) _))
  have BR : Hid (BoxJ W (w.heap.size + 1) jb0 none 0 0) := Lib.hid (by
    have := boxJ_new (w.alloc (jO j A m c)) jb0 none 0 0
    rw [show (w.alloc (jO j A m c)).heap.size = w.heap.size + 1 by simp] at this
    rw [hW]; exact this)
  have hb0 : Below w.heap.size w W := by rw [hW]; exact ((Below.refl _ _).alloc (Nat.le_refl _) _).alloc (by simp) _
  have HB := Lib.hid hb0
  have JA := Lib.hid (hj.next hb0)
  have JW := Lib.hid hj
  unfold jO at hW
  simp only [jb0, sp0] at hW
  clear hb0
  have RJ := Lib.hid hr
  have d1 : decide (what < 1) = false := decide_eq_false h1
  have d2 : decide (7 < what) = false := decide_eq_false h2
  have TN := Lib.hid h3
  have d4 : decide (now < j.came) = false := decide_eq_false h4
  have d5 : decide (now < j.frm) = false := decide_eq_false h5
  have hrj := (of_decide_eq_true hr).2.2.1.1
  have hs1 : 0 ≤ j.state := hrj.1
  have hs2 : j.state ≤ 6 := hrj.2
  have hw1 : 1 ≤ what := by omega
  have hw2 : what ≤ 7 := by omega
  have NX := Lib.hid hs
  have d6 : decide (s < 0) = false := decide_eq_false h6
  have hrg := next_range j.state what
  rw [hs] at hrg
  have HI0 : Hid (I64 s) := Lib.hid (by unfold I64; omega)
  have HI1 : Hid (I64 j.frm) := Lib.hid hj.int.2.2.2.1
  have HI2 : Hid (I64 now) := Lib.hid hn
  have d7 : (s == 2) = false := by rw [beq_eq_false_iff_ne]; omega
  have d8 : decide (2 < s) = true := decide_eq_true h7
  have HNN := Lib.hid hn
  clear hj hn hr h1 h2 h3 h4 h5 hs hrj h6 h7 hrg
  go_enter Try.func8, Try.ntmps8
  go_wp2_with fail
  rw [← hW]
  refine (refRightJ_b JA.out RJ.out).mono ?_
  rintro e w1 ⟨rfl, hb⟩
  have HBq := Lib.hid (HB.out.trans (hb.mono HB.out.size))
  clear HB
  have HB := HBq
  clear HBq
  have BXq := Lib.hid (BX.out.next hb)
  clear BX
  have BX := BXq
  clear BXq
  have BRq := Lib.hid (BR.out.next hb)
  clear BR
  have BR := BRq
  clear BRq
  have JAq := Lib.hid (JA.out.next hb)
  clear JA
  have JA := JAq
  clear JAq
  clear hb
  clear hW
  have q0 := BX.out.c0
  have q1 := BX.out.c1
  have q2 := BX.out.c2
  have q3 := BX.out.c3
  have q4 := BX.out.c4
  have q5 := BX.out.c5
  have q6 := BX.out.c6
  have q7 := BX.out.c7
  have q8 := BX.out.c8
  have q9 := BX.out.c9
  have q10 := BX.out.c10
  have q11 := BX.out.c11
  have q12 := BX.out.c12
  go_wp2_with fail
  refine (refTime_b TN.out).mono ?_
  rintro e w2 ⟨rfl, hb⟩
  have HBq := Lib.hid (HB.out.trans (hb.mono HB.out.size))
  clear HB
  have HB := HBq
  clear HBq
  have BXq := Lib.hid (BX.out.next hb)
  clear BX
  have BX := BXq
  clear BXq
  have BRq := Lib.hid (BR.out.next hb)
  clear BR
  have BR := BRq
  clear BRq
  have JAq := Lib.hid (JA.out.next hb)
  clear JA
  have JA := JAq
  clear JAq
  clear hb
  clear q0 q1 q2 q3 q4 q5 q6 q7 q8 q9 q10 q11 q12
  have q0 := BX.out.c0
  have q1 := BX.out.c1
  have q2 := BX.out.c2
  have q3 := BX.out.c3
  have q4 := BX.out.c4
  have q5 := BX.out.c5
  have q6 := BX.out.c6
  have q7 := BX.out.c7
  have q8 := BX.out.c8
  have q9 := BX.out.c9
  have q10 := BX.out.c10
  have q11 := BX.out.c11
  have q12 := BX.out.c12
  go_wp2_with fail
  refine (refNext_any hs1 hs2 hw1 hw2 NX.out).mono ?_
  rintro e w3 ⟨rfl, hb⟩
  have HBq := Lib.hid (HB.out.trans (hb.mono HB.out.size))
  clear HB
  have HB := HBq
  clear HBq
  have BXq := Lib.hid (BX.out.next hb)
  clear BX
  have BX := BXq
  clear BXq
  have BRq := Lib.hid (BR.out.next hb)
  clear BR
  have BR := BRq
  clear BRq
  have JAq := Lib.hid (JA.out.next hb)
  clear JA
  have JA := JAq
  clear JAq
  clear hb
  clear q0 q1 q2 q3 q4 q5 q6 q7 q8 q9 q10 q11 q12
  have q0 := BX.out.c0
  have q1 := BX.out.c1
  have q2 := BX.out.c2
  have q3 := BX.out.c3
  have q4 := BX.out.c4
  have q5 := BX.out.c5
  have q6 := BX.out.c6
  have q7 := BX.out.c7
  have q8 := BX.out.c8
  have q9 := BX.out.c9
  have q10 := BX.out.c10
  have q11 := BX.out.c11
  have q12 := BX.out.c12
  have y9' := BX.out.frozen 9
  have X0 := BX.out.set (j' := ⟨j.id, j.spec, j.needs, s, j.came, j.frm, j.to⟩) (A' := A) (m' := m) (c' := c) (k := 9) (v := .int .i64 s) (by kernel_rfl)
  have R0 := BR.out.other (g' := w.heap.size) (k := 9) (v := .int .i64 s) (by omega)
  have z0 := X0.frozen 12
  have zc0 := X0.c12
  have X1 := X0.set (j' := ⟨j.id, j.spec, j.needs, s, j.came, j.frm, now⟩) (A' := A) (m' := m) (c' := c) (k := 12) (v := .int .i64 now) (by kernel_rfl)
  have R1 := R0.other (g' := w.heap.size) (k := 12) (v := .int .i64 now) (by omega)
  have s0 := X1.c0
  have s1 := X1.c1
  have s2 := X1.c2
  have s3 := X1.c3
  have s4 := X1.c4
  have s5 := X1.c5
  have s6 := X1.c6
  have s7 := X1.c7
  have s8 := X1.c8
  have s9 := X1.c9
  have s10 := X1.c10
  have s11 := X1.c11
  have s12 := X1.c12
  have p0 := R1.c0
  have y0 := R1.frozen 0
  have p1 := R1.c1
  have y1 := R1.frozen 1
  have p2 := R1.c2
  have y2 := R1.frozen 2
  have p3 := R1.c3
  have y3 := R1.frozen 3
  have p4 := R1.c4
  have y4 := R1.frozen 4
  have p5 := R1.c5
  have y5 := R1.frozen 5
  have p6 := R1.c6
  have y6 := R1.frozen 6
  have p7 := R1.c7
  have y7 := R1.frozen 7
  have p8 := R1.c8
  have y8 := R1.frozen 8
  have p9 := R1.c9
  have y9 := R1.frozen 9
  have p10 := R1.c10
  have y10 := R1.frozen 10
  have p11 := R1.c11
  have y11 := R1.frozen 11
  have p12 := R1.c12
  have y12 := R1.frozen 12
  go_wp2
  have HBF := below_store (v0 := .int .i64 j.id) (v1 := .int .i64 j.spec.nodes) (v2 := .int .i64 j.spec.cores) (v3 := .int .i64 j.spec.gpus) (v4 := .string j.spec.tag) (v5 := .bool j.spec.whole) (v6 := .int .i64 j.spec.long) (v7 := .int .i64 j.spec.prio) (v8 := .slice A m c) (v9 := .int .i64 s) (v10 := .int .i64 j.came) (v11 := .int .i64 j.frm) (v12 := .int .i64 now) ((HB.out.setCell (p := ⟨w.heap.size, 9, none⟩) (Nat.le_refl _) (.int .i64 s)).setCell (p := ⟨w.heap.size, 12, none⟩) (Nat.le_refl _) (.int .i64 now)) (show w.heap.size ≤ w.heap.size + 1 by omega)
  have b1 := R1.store ⟨j.id, j.spec, j.needs, s, j.came, j.frm, now⟩ A m c
  have r0 := b1.c0
  have r1 := b1.c1
  have r2 := b1.c2
  have r3 := b1.c3
  have r4 := b1.c4
  have r5 := b1.c5
  have r6 := b1.c6
  have r7 := b1.c7
  have r8 := b1.c8
  have r9 := b1.c9
  have r10 := b1.c10
  have r11 := b1.c11
  have r12 := b1.c12
  refine bodyPost_ret (v := .tuple #[.agg #[.int .i64 j.id, .int .i64 j.spec.nodes, .int .i64 j.spec.cores, .int .i64 j.spec.gpus, .string j.spec.tag, .bool j.spec.whole, .int .i64 j.spec.long, .int .i64 j.spec.prio, .slice A m c, .int .i64 s, .int .i64 j.came, .int .i64 j.frm, .int .i64 now], .int .i64 0]) (by simp [results, Try.results8, go_sem, r0, r1, r2, r3, r4, r5, r6, r7, r8, r9, r10, r11, r12]) rfl ⟨⟨A, m, c, rfl, jAsk_turn (JW.out.next HBF) HI0.out HI1.out HI2.out⟩, HBF⟩


theorem refDoJ_any (A : Option Addr) (m c : Nat) (j : Jb) (what now : Int) (w : World) (hj : JAsk w A m c j) (hn : I64 now) : Calls Try.prog 8 #[.agg #[.int .i64 j.id, .int .i64 j.spec.nodes, .int .i64 j.spec.cores, .int .i64 j.spec.gpus, .string j.spec.tag, .bool j.spec.whole, .int .i64 j.spec.long, .int .i64 j.spec.prio, .slice A m c, .int .i64 j.state, .int .i64 j.came, .int .i64 j.frm, .int .i64 j.to], .int .i64 what, .int .i64 now] w (JPost (doJ j what now) (doE j what now) w) := by
  have bad : ¬ AskOk j what now → doE j what now = 1 ∧ doJ j what now = j := fun h => by
    have h1 : doE j what now = 1 := if_neg h
    exact ⟨h1, doJ_no (by rw [h1]; decide)⟩
  cases hr : rightJ j with
  | false =>
    obtain ⟨e1, e2⟩ := bad fun h => of_decide_eq_false hr h.1
    rw [e1, e2]; exact refDo_1 A m c j what now w hj hr
  | true =>
  by_cases h1 : what < 1
  · obtain ⟨e1, e2⟩ := bad fun h => by have := h.2.1; omega
    rw [e1, e2]; exact refDo_2 A m c j what now w hj hr h1
  by_cases h2 : 7 < what
  · obtain ⟨e1, e2⟩ := bad fun h => by have := h.2.1; omega
    rw [e1, e2]; exact refDo_3 A m c j what now w hj hr h1 h2
  cases h3 : timeJ now with
  | false =>
    obtain ⟨e1, e2⟩ := bad fun h => timeJ_no h3 h.2.2.1
    rw [e1, e2]; exact refDo_4 A m c j what now w hj hr h1 h2 h3
  | true =>
  by_cases h4 : now < j.came
  · obtain ⟨e1, e2⟩ := bad fun h => by have := h.2.2.2.1; omega
    rw [e1, e2]; exact refDo_5 A m c j what now w hj hr h1 h2 h3 h4
  by_cases h5 : now < j.frm
  · obtain ⟨e1, e2⟩ := bad fun h => by have := h.2.2.2.2; omega
    rw [e1, e2]; exact refDo_6 A m c j what now w hj hr h1 h2 h3 h4 h5
  have hok : AskOk j what now := ⟨of_decide_eq_true hr, ⟨by omega, by omega⟩, timeJ_yes h3, by omega, by omega⟩
  by_cases h6 : nextZ j.state what < 0
  · have e1 : doE j what now = 8 := by unfold doE; rw [if_pos hok, if_pos h6]
    rw [e1, doJ_no (by rw [e1]; decide)]
    exact refDo_7 A m c j what now w hj hr h1 h2 h3 h4 h5 _ rfl h6
  have e1 : doE j what now = 0 := by unfold doE; rw [if_pos hok, if_neg h6]
  rw [e1, doJ_ok e1]
  by_cases h7 : nextZ j.state what < 2
  · rw [show intoJ j (nextZ j.state what) now = ⟨j.id, j.spec, j.needs, nextZ j.state what, j.came, j.frm, j.to⟩ by unfold intoJ; rw [if_neg (by omega), if_neg (by omega)]]
    exact refDo_8 A m c j what now w hj hn hr h1 h2 h3 h4 h5 _ rfl h6 h7
  by_cases h8 : nextZ j.state what = 2
  · rw [show intoJ j (nextZ j.state what) now = ⟨j.id, j.spec, j.needs, nextZ j.state what, j.came, now, j.to⟩ by unfold intoJ; rw [if_pos h8, if_neg (by omega)]]
    exact refDo_9 A m c j what now w hj hn hr h1 h2 h3 h4 h5 _ rfl h6 h8
  · rw [show intoJ j (nextZ j.state what) now = ⟨j.id, j.spec, j.needs, nextZ j.state what, j.came, j.frm, now⟩ by unfold intoJ; rw [if_neg h8, if_pos (by omega)]]
    exact refDo_10 A m c j what now w hj hn hr h1 h2 h3 h4 h5 _ rfl h6 (by omega)
theorem refDoJ_b {A : Option Addr} {m c : Nat} {j j' : Jb} {what now er : Int} {w : World} (hj : JAsk w A m c j) (hn : I64 now) (e1 : doJ j what now = j') (e2 : doE j what now = er) : Calls Try.prog 8 #[.agg #[.int .i64 j.id, .int .i64 j.spec.nodes, .int .i64 j.spec.cores, .int .i64 j.spec.gpus, .string j.spec.tag, .bool j.spec.whole, .int .i64 j.spec.long, .int .i64 j.spec.prio, .slice A m c, .int .i64 j.state, .int .i64 j.came, .int .i64 j.frm, .int .i64 j.to], .int .i64 what, .int .i64 now] w (JPost j' er w) := by
  subst e1 e2; exact refDoJ_any A m c j what now w hj hn

end Go.Proofs.Ytpaabeadiokgoaa
