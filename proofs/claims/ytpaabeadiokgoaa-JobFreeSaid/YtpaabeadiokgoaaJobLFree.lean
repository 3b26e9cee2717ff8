/- The statement JobFree, as a walk over the contracts. Written by gen/gen_joblaws.py. -/
import Derived.Test.YtpaabeadiokgoaaJobAwake
import Derived.Test.YtpaabeadiokgoaaJobLawMath
import Derived.Test.YtpaabeadiokgoaaJobRefD
namespace Go.Proofs.Ytpaabeadiokgoaa
open Go.RowKit

set_option maxRecDepth 100000 in
set_option maxHeartbeats 8000000 in
theorem jobFree_l (H : JobOk) (A : Option Addr) (m c : Nat) (j : Jb) (now a b : Int) (w : World) (hj : JAsk w A m c j) (hn : I64 now) (ha : I64 a) (hb : I64 b) (h40 : 40 < m) :
    Calls Try.prog 5 #[.agg #[.int .i64 j.id, .int .i64 j.spec.nodes, .int .i64 j.spec.cores, .int .i64 j.spec.gpus, .string j.spec.tag, .bool j.spec.whole, .int .i64 j.spec.long, .int .i64 j.spec.prio, .slice A m c, .int .i64 j.state, .int .i64 j.came, .int .i64 j.frm, .int .i64 j.to], .int .i64 now, .int .i64 a, .int .i64 b] w fun e w' => e = .returned (.bool true) ∧ Below w.heap.size w w' := by
  obtain ⟨W, hW⟩ : ∃ W, W = w.alloc (jO j A m c) := ⟨_, rfl⟩
  have BX : Hid (BoxJ W w.heap.size j A m c) := Lib.hid (by rw [hW]; exact boxJ_new w j A m c)
  have hb0 : Below w.heap.size w W := by rw [hW]; exact (Below.refl _ _).alloc (Nat.le_refl _) _
  have HB := Lib.hid hb0
  have JA := Lib.hid (hj.next hb0)
  unfold jO at hW
  have h40d : decide ((40 : Int) < (m : Int)) = true := by simp; omega
  have _u1 := hn
  have _u2 := ha
  have _u3 := hb
  clear _u1 _u2 _u3
  clear hb0 hj hn ha hb JA
  go_enter Try.func5, Try.ntmps5
  go_wp2_with fail
  rw [← hW]
  refine (awake11_any H _).mono ?_
  rintro e w1 ⟨rfl, hb⟩
  have HBq := Lib.hid (HB.out.trans (hb.mono HB.out.size))
  clear HB
  have HB := HBq
  clear HBq
  have BXq := Lib.hid (BX.out.next hb)
  clear BX
  have BX := BXq
  clear BXq
  clear hb
  clear hW
  have q0 := BX.out.c0
  have q1 := BX.out.c1
  have q2 := BX.out.c2
  have q3 := BX.out.c3
  have q4 := BX.out.c4
  have q5 := BX.out.c5
  have q6 := BX.out.c6
  have q7 := BX.out.c7
  have q8 := BX.out.c8
  have q9 := BX.out.c9
  have q10 := BX.out.c10
  have q11 := BX.out.c11
  have q12 := BX.out.c12
  go_wp2
  go_ret
  exact ⟨rfl, HB.out⟩

set_option maxRecDepth 100000 in
set_option maxHeartbeats 8000000 in
theorem jobFree_o1h (H : JobOk) (A : Option Addr) (m c : Nat) (j : Jb) (now a b : Int) (w : World) (hj : JAsk w A m c j) (hn : I64 now) (ha : I64 a) (hb : I64 b) (h40 : ¬ 40 < m) (k1 : a < 0) (g1 : doE j 1 now = 0) :
    Calls Try.prog 5 #[.agg #[.int .i64 j.id, .int .i64 j.spec.nodes, .int .i64 j.spec.cores, .int .i64 j.spec.gpus, .string j.spec.tag, .bool j.spec.whole, .int .i64 j.spec.long, .int .i64 j.spec.prio, .slice A m c, .int .i64 j.state, .int .i64 j.came, .int .i64 j.frm, .int .i64 j.to], .int .i64 now, .int .i64 a, .int .i64 b] w fun e w' => e = .returned (.bool true) ∧ Below w.heap.size w w' := by
  obtain ⟨W, hW⟩ : ∃ W, W = w.alloc (jO j A m c) := ⟨_, rfl⟩
  have BX : Hid (BoxJ W w.heap.size j A m c) := Lib.hid (by rw [hW]; exact boxJ_new w j A m c)
  have hb0 : Below w.heap.size w W := by rw [hW]; exact (Below.refl _ _).alloc (Nat.le_refl _) _
  have HB := Lib.hid hb0
  have JA := Lib.hid (hj.next hb0)
  unfold jO at hW
  have h40d : decide ((40 : Int) < (m : Int)) = false := by simp; omega
  have hmm : m ≤ 100 := by omega
  have HML := Lib.hid hj.reads.1
  have IN := Lib.hid hn
  have IA := Lib.hid ha
  have IB := Lib.hid hb
  have IST := Lib.hid hj.int.2.1
  have I1 : Hid (I64 1) := Lib.hid (by unfold I64; omega)
  have I2 : Hid (I64 2) := Lib.hid (by unfold I64; omega)
  have I6 : Hid (I64 6) := Lib.hid (by unfold I64; omega)
  have hx0 : nameJ a = ⟨#[]⟩ := name_out (by omega)
  have NA := Lib.hid hx0
  obtain ⟨y, hy⟩ : ∃ y, nameJ b = y := ⟨_, rfl⟩
  have NB := Lib.hid hy
  clear hx0 hy
  have d1 : decide (a < 0) = true := decide_eq_true k1
  clear k1
  obtain ⟨hf1, hf2⟩ := hold_free g1
  have hcz := hold_cancel g1
  obtain ⟨hov, hcd⟩ := cancel_does hcz
  have hrt : rightJ j = true := decide_eq_true (do_ok.1 g1).1.1
  obtain ⟨k, hk⟩ : ∃ k, doJ j 1 now = k := ⟨_, rfl⟩
  rw [hk] at hf1 hf2
  have EH := Lib.hid hk
  have EHE := Lib.hid g1
  have EF := Lib.hid hf2
  have EFE := Lib.hid hf1
  have EC := Lib.hid hcd
  have ECE := Lib.hid hcz
  have OV := Lib.hid hov
  have RT := Lib.hid hrt
  clear hf1 hf2 hcz hov hcd hrt hk g1
  clear hb0 hj hn ha hb h40
  go_enter Try.func5, Try.ntmps5
  go_wp2_with fail
  rw [← hW]
  refine (awake11_any H _).mono ?_
  rintro e w1 ⟨rfl, hb⟩
  have HBq := Lib.hid (HB.out.trans (hb.mono HB.out.size))
  clear HB
  have HB := HBq
  clear HBq
  have BXq := Lib.hid (BX.out.next hb)
  clear BX
  have BX := BXq
  clear BXq
  have JAq := Lib.hid (JA.out.next hb)
  clear JA
  have JA := JAq
  clear JAq
  clear hb
  clear hW
  have q0 := BX.out.c0
  have q1 := BX.out.c1
  have q2 := BX.out.c2
  have q3 := BX.out.c3
  have q4 := BX.out.c4
  have q5 := BX.out.c5
  have q6 := BX.out.c6
  have q7 := BX.out.c7
  have q8 := BX.out.c8
  have q9 := BX.out.c9
  have q10 := BX.out.c10
  have q11 := BX.out.c11
  have q12 := BX.out.c12
  go_wp2_with fail
  refine (h11_name H IA.out NA.out).mono ?_
  rintro e w2 ⟨rfl, hb⟩
  have HBq := Lib.hid (HB.out.trans (hb.mono HB.out.size))
  clear HB
  have HB := HBq
  clear HBq
  have BXq := Lib.hid (BX.out.next hb)
  clear BX
  have BX := BXq
  clear BXq
  have JAq := Lib.hid (JA.out.next hb)
  clear JA
  have JA := JAq
  clear JAq
  clear hb
  clear q0 q1 q2 q3 q4 q5 q6 q7 q8 q9 q10 q11 q12
  go_wp2_with fail
  refine (h11_name H IB.out NB.out).mono ?_
  rintro e w3 ⟨rfl, hb⟩
  have HBq := Lib.hid (HB.out.trans (hb.mono HB.out.size))
  clear HB
  have HB := HBq
  clear HBq
  have BXq := Lib.hid (BX.out.next hb)
  clear BX
  have BX := BXq
  clear BXq
  have JAq := Lib.hid (JA.out.next hb)
  clear JA
  have JA := JAq
  clear JAq
  clear hb
  have q0 := BX.out.c0
  have q1 := BX.out.c1
  have q2 := BX.out.c2
  have q3 := BX.out.c3
  have q4 := BX.out.c4
  have q5 := BX.out.c5
  have q6 := BX.out.c6
  have q7 := BX.out.c7
  have q8 := BX.out.c8
  have q9 := BX.out.c9
  have q10 := BX.out.c10
  have q11 := BX.out.c11
  have q12 := BX.out.c12
  go_wp2_with fail
  refine (h11_do H JA.out hmm I1.out IN.out EH.out EHE.out).mono ?_
  rintro e w4 ⟨⟨A1, m1, c1, rfl, hj1⟩, hb⟩
  have HBq := Lib.hid (HB.out.trans (hb.mono HB.out.size))
  clear HB
  have HB := HBq
  clear HBq
  have BXq := Lib.hid (BX.out.next hb)
  clear BX
  have BX := BXq
  clear BXq
  have JAq := Lib.hid (JA.out.next hb)
  clear JA
  have JA := JAq
  clear JAq
  clear hb
  have J1 := Lib.hid hj1
  clear hj1
  clear q0 q1 q2 q3 q4 q5 q6 q7 q8 q9 q10 q11 q12
  have hb := Below.alloc (Below.refl w4.heap.size w4) (Nat.le_refl _) (.cells #[.int .i64 k.id, .int .i64 k.spec.nodes, .int .i64 k.spec.cores, .int .i64 k.spec.gpus, .string k.spec.tag, .bool k.spec.whole, .int .i64 k.spec.long, .int .i64 k.spec.prio, .slice A1 m1 c1, .int .i64 k.state, .int .i64 k.came, .int .i64 k.frm, .int .i64 k.to] 26)
  have B1q := Lib.hid (boxJ_new w4 k A1 m1 c1)
  have HBq := Lib.hid (HB.out.trans (hb.mono HB.out.size))
  clear HB
  have HB := HBq
  clear HBq
  have BXq := Lib.hid (BX.out.next hb)
  clear BX
  have BX := BXq
  clear BXq
  have JAq := Lib.hid (JA.out.next hb)
  clear JA
  have JA := JAq
  clear JAq
  have J1q := Lib.hid (J1.out.next hb)
  clear J1
  have J1 := J1q
  clear J1q
  clear hb
  have B1 := B1q
  clear B1q
  have q0 := BX.out.c0
  have q1 := BX.out.c1
  have q2 := BX.out.c2
  have q3 := BX.out.c3
  have q4 := BX.out.c4
  have q5 := BX.out.c5
  have q6 := BX.out.c6
  have q7 := BX.out.c7
  have q8 := BX.out.c8
  have q9 := BX.out.c9
  have q10 := BX.out.c10
  have q11 := BX.out.c11
  have q12 := BX.out.c12
  have hk100 : m1 ≤ 100 := by
    have h1 := J1.out.reads.1
    rw [← h1, ← EH.out, doJ_ok EHE.out]
    show j.needs.length ≤ 100
    rw [HML.out]; exact hmm
  have r0 := B1.out.c0
  have r1 := B1.out.c1
  have r2 := B1.out.c2
  have r3 := B1.out.c3
  have r4 := B1.out.c4
  have r5 := B1.out.c5
  have r6 := B1.out.c6
  have r7 := B1.out.c7
  have r8 := B1.out.c8
  have r9 := B1.out.c9
  have r10 := B1.out.c10
  have r11 := B1.out.c11
  have r12 := B1.out.c12
  go_wp2_with fail
  refine (h11_do H J1.out hk100 I2.out IN.out EF.out EFE.out).mono ?_
  rintro e w5 ⟨⟨A2, m2, c2, rfl, hj2⟩, hb⟩
  have HBq := Lib.hid (HB.out.trans (hb.mono HB.out.size))
  clear HB
  have HB := HBq
  clear HBq
  have BXq := Lib.hid (BX.out.next hb)
  clear BX
  have BX := BXq
  clear BXq
  have JAq := Lib.hid (JA.out.next hb)
  clear JA
  have JA := JAq
  clear JAq
  have J1q := Lib.hid (J1.out.next hb)
  clear J1
  have J1 := J1q
  clear J1q
  have B1q := Lib.hid (B1.out.next hb)
  clear B1
  have B1 := B1q
  clear B1q
  clear hb
  have J2 := Lib.hid hj2
  clear hj2
  clear q0 q1 q2 q3 q4 q5 q6 q7 q8 q9 q10 q11 q12 r0 r1 r2 r3 r4 r5 r6 r7 r8 r9 r10 r11 r12
  clear B1
  clear J1
  have hb := Below.alloc (Below.refl w5.heap.size w5) (Nat.le_refl _) (.cells #[.int .i64 j.id, .int .i64 j.spec.nodes, .int .i64 j.spec.cores, .int .i64 j.spec.gpus, .string j.spec.tag, .bool j.spec.whole, .int .i64 j.spec.long, .int .i64 j.spec.prio, .slice A2 m2 c2, .int .i64 j.state, .int .i64 j.came, .int .i64 j.frm, .int .i64 j.to] 26)
  have B2q := Lib.hid (boxJ_new w5 j A2 m2 c2)
  have HBq := Lib.hid (HB.out.trans (hb.mono HB.out.size))
  clear HB
  have HB := HBq
  clear HBq
  have BXq := Lib.hid (BX.out.next hb)
  clear BX
  have BX := BXq
  clear BXq
  have JAq := Lib.hid (JA.out.next hb)
  clear JA
  have JA := JAq
  clear JAq
  have J2q := Lib.hid (J2.out.next hb)
  clear J2
  have J2 := J2q
  clear J2q
  clear hb
  have B2 := B2q
  clear B2q
  have q0 := BX.out.c0
  have q1 := BX.out.c1
  have q2 := BX.out.c2
  have q3 := BX.out.c3
  have q4 := BX.out.c4
  have q5 := BX.out.c5
  have q6 := BX.out.c6
  have q7 := BX.out.c7
  have q8 := BX.out.c8
  have q9 := BX.out.c9
  have q10 := BX.out.c10
  have q11 := BX.out.c11
  have q12 := BX.out.c12
  have r0 := B2.out.c0
  have r1 := B2.out.c1
  have r2 := B2.out.c2
  have r3 := B2.out.c3
  have r4 := B2.out.c4
  have r5 := B2.out.c5
  have r6 := B2.out.c6
  have r7 := B2.out.c7
  have r8 := B2.out.c8
  have r9 := B2.out.c9
  have r10 := B2.out.c10
  have r11 := B2.out.c11
  have r12 := B2.out.c12
  go_wp2_with fail
  refine (refSameJ_b J2.out JA.out (sameJ_iff.2 rfl)).mono ?_
  rintro e w6 ⟨rfl, hb⟩
  have HBq := Lib.hid (HB.out.trans (hb.mono HB.out.size))
  clear HB
  have HB := HBq
  clear HBq
  have BXq := Lib.hid (BX.out.next hb)
  clear BX
  have BX := BXq
  clear BXq
  have JAq := Lib.hid (JA.out.next hb)
  clear JA
  have JA := JAq
  clear JAq
  have J2q := Lib.hid (J2.out.next hb)
  clear J2
  have J2 := J2q
  clear J2q
  have B2q := Lib.hid (B2.out.next hb)
  clear B2
  have B2 := B2q
  clear B2q
  clear hb
  clear q0 q1 q2 q3 q4 q5 q6 q7 q8 q9 q10 q11 q12 r0 r1 r2 r3 r4 r5 r6 r7 r8 r9 r10 r11 r12
  have q0 := BX.out.c0
  have q1 := BX.out.c1
  have q2 := BX.out.c2
  have q3 := BX.out.c3
  have q4 := BX.out.c4
  have q5 := BX.out.c5
  have q6 := BX.out.c6
  have q7 := BX.out.c7
  have q8 := BX.out.c8
  have q9 := BX.out.c9
  have q10 := BX.out.c10
  have q11 := BX.out.c11
  have q12 := BX.out.c12
  clear B2
  clear J2
  go_wp2_with fail
  refine (h11_do H JA.out hmm I6.out IN.out EC.out ECE.out).mono ?_
  rintro e w7 ⟨⟨A5, m5, c5, rfl, hj5⟩, hb⟩
  have HBq := Lib.hid (HB.out.trans (hb.mono HB.out.size))
  clear HB
  have HB := HBq
  clear HBq
  have BXq := Lib.hid (BX.out.next hb)
  clear BX
  have BX := BXq
  clear BXq
  have JAq := Lib.hid (JA.out.next hb)
  clear JA
  have JA := JAq
  clear JAq
  clear hb
  have J5 := Lib.hid hj5
  clear hj5
  clear q0 q1 q2 q3 q4 q5 q6 q7 q8 q9 q10 q11 q12
  have hb := Below.alloc (Below.refl w7.heap.size w7) (Nat.le_refl _) (.cells #[.int .i64 j.id, .int .i64 j.spec.nodes, .int .i64 j.spec.cores, .int .i64 j.spec.gpus, .string j.spec.tag, .bool j.spec.whole, .int .i64 j.spec.long, .int .i64 j.spec.prio, .slice A5 m5 c5, .int .i64 5, .int .i64 j.came, .int .i64 j.frm, .int .i64 now] 26)
  have B5q := Lib.hid (boxJ_new w7 ⟨j.id, j.spec, j.needs, 5, j.came, j.frm, now⟩ A5 m5 c5)
  have HBq := Lib.hid (HB.out.trans (hb.mono HB.out.size))
  clear HB
  have HB := HBq
  clear HBq
  have BXq := Lib.hid (BX.out.next hb)
  clear BX
  have BX := BXq
  clear BXq
  have JAq := Lib.hid (JA.out.next hb)
  clear JA
  have JA := JAq
  clear JAq
  have J5q := Lib.hid (J5.out.next hb)
  clear J5
  have J5 := J5q
  clear J5q
  clear hb
  have B5 := B5q
  clear B5q
  have q0 := BX.out.c0
  have q1 := BX.out.c1
  have q2 := BX.out.c2
  have q3 := BX.out.c3
  have q4 := BX.out.c4
  have q5 := BX.out.c5
  have q6 := BX.out.c6
  have q7 := BX.out.c7
  have q8 := BX.out.c8
  have q9 := BX.out.c9
  have q10 := BX.out.c10
  have q11 := BX.out.c11
  have q12 := BX.out.c12
  have r0 := B5.out.c0
  have r1 := B5.out.c1
  have r2 := B5.out.c2
  have r3 := B5.out.c3
  have r4 := B5.out.c4
  have r5 := B5.out.c5
  have r6 := B5.out.c6
  have r7 := B5.out.c7
  have r8 := B5.out.c8
  have r9 := B5.out.c9
  have r10 := B5.out.c10
  have r11 := B5.out.c11
  have r12 := B5.out.c12
  simp only at r9 r11 r12
  go_wp2_with fail
  refine (h11_right H JA.out hmm RT.out).mono ?_
  rintro e w8 ⟨rfl, hb⟩
  have HBq := Lib.hid (HB.out.trans (hb.mono HB.out.size))
  clear HB
  have HB := HBq
  clear HBq
  have BXq := Lib.hid (BX.out.next hb)
  clear BX
  have BX := BXq
  clear BXq
  have JAq := Lib.hid (JA.out.next hb)
  clear JA
  have JA := JAq
  clear JAq
  have J5q := Lib.hid (J5.out.next hb)
  clear J5
  have J5 := J5q
  clear J5q
  have B5q := Lib.hid (B5.out.next hb)
  clear B5
  have B5 := B5q
  clear B5q
  clear hb
  clear q0 q1 q2 q3 q4 q5 q6 q7 q8 q9 q10 q11 q12 r0 r1 r2 r3 r4 r5 r6 r7 r8 r9 r10 r11 r12
  have q0 := BX.out.c0
  have q1 := BX.out.c1
  have q2 := BX.out.c2
  have q3 := BX.out.c3
  have q4 := BX.out.c4
  have q5 := BX.out.c5
  have q6 := BX.out.c6
  have q7 := BX.out.c7
  have q8 := BX.out.c8
  have q9 := BX.out.c9
  have q10 := BX.out.c10
  have q11 := BX.out.c11
  have q12 := BX.out.c12
  have r0 := B5.out.c0
  have r1 := B5.out.c1
  have r2 := B5.out.c2
  have r3 := B5.out.c3
  have r4 := B5.out.c4
  have r5 := B5.out.c5
  have r6 := B5.out.c6
  have r7 := B5.out.c7
  have r8 := B5.out.c8
  have r9 := B5.out.c9
  have r10 := B5.out.c10
  have r11 := B5.out.c11
  have r12 := B5.out.c12
  simp only at r9 r11 r12
  go_wp2_with fail
  refine (h11_over H IST.out OV.out).mono ?_
  rintro e w9 ⟨rfl, hb⟩
  have HBq := Lib.hid (HB.out.trans (hb.mono HB.out.size))
  clear HB
  have HB := HBq
  clear HBq
  have BXq := Lib.hid (BX.out.next hb)
  clear BX
  have BX := BXq
  clear BXq
  have JAq := Lib.hid (JA.out.next hb)
  clear JA
  have JA := JAq
  clear JAq
  have J5q := Lib.hid (J5.out.next hb)
  clear J5
  have J5 := J5q
  clear J5q
  have B5q := Lib.hid (B5.out.next hb)
  clear B5
  have B5 := B5q
  clear B5q
  clear hb
  clear q0 q1 q2 q3 q4 q5 q6 q7 q8 q9 q10 q11 q12 r0 r1 r2 r3 r4 r5 r6 r7 r8 r9 r10 r11 r12
  have q0 := BX.out.c0
  have q1 := BX.out.c1
  have q2 := BX.out.c2
  have q3 := BX.out.c3
  have q4 := BX.out.c4
  have q5 := BX.out.c5
  have q6 := BX.out.c6
  have q7 := BX.out.c7
  have q8 := BX.out.c8
  have q9 := BX.out.c9
  have q10 := BX.out.c10
  have q11 := BX.out.c11
  have q12 := BX.out.c12
  have r0 := B5.out.c0
  have r1 := B5.out.c1
  have r2 := B5.out.c2
  have r3 := B5.out.c3
  have r4 := B5.out.c4
  have r5 := B5.out.c5
  have r6 := B5.out.c6
  have r7 := B5.out.c7
  have r8 := B5.out.c8
  have r9 := B5.out.c9
  have r10 := B5.out.c10
  have r11 := B5.out.c11
  have r12 := B5.out.c12
  simp only at r9 r11 r12
  go_wp2
  go_ret
  exact ⟨rfl, HB.out⟩

set_option maxRecDepth 100000 in
set_option maxHeartbeats 8000000 in
theorem jobFree_o1n (H : JobOk) (A : Option Addr) (m c : Nat) (j : Jb) (now a b : Int) (w : World) (hj : JAsk w A m c j) (hn : I64 now) (ha : I64 a) (hb : I64 b) (h40 : ¬ 40 < m) (k1 : a < 0) (g1 : doE j 1 now ≠ 0) (g2 : rightJ j = false) :
    Calls Try.prog 5 #[.agg #[.int .i64 j.id, .int .i64 j.spec.nodes, .int .i64 j.spec.cores, .int .i64 j.spec.gpus, .string j.spec.tag, .bool j.spec.whole, .int .i64 j.spec.long, .int .i64 j.spec.prio, .slice A m c, .int .i64 j.state, .int .i64 j.came, .int .i64 j.frm, .int .i64 j.to], .int .i64 now, .int .i64 a, .int .i64 b] w fun e w' => e = .returned (.bool true) ∧ Below w.heap.size w w' := by
  obtain ⟨W, hW⟩ : ∃ W, W = w.alloc (jO j A m c) := ⟨_, rfl⟩
  have BX : Hid (BoxJ W w.heap.size j A m c) := Lib.hid (by rw [hW]; exact boxJ_new w j A m c)
  have hb0 : Below w.heap.size w W := by rw [hW]; exact (Below.refl _ _).alloc (Nat.le_refl _) _
  have HB := Lib.hid hb0
  have JA := Lib.hid (hj.next hb0)
  unfold jO at hW
  have h40d : decide ((40 : Int) < (m : Int)) = false := by simp; omega
  have hmm : m ≤ 100 := by omega
  have HML := Lib.hid hj.reads.1
  have IN := Lib.hid hn
  have IA := Lib.hid ha
  have IB := Lib.hid hb
  have IST := Lib.hid hj.int.2.1
  have I1 : Hid (I64 1) := Lib.hid (by unfold I64; omega)
  have I2 : Hid (I64 2) := Lib.hid (by unfold I64; omega)
  have I6 : Hid (I64 6) := Lib.hid (by unfold I64; omega)
  have hx0 : nameJ a = ⟨#[]⟩ := name_out (by omega)
  have NA := Lib.hid hx0
  obtain ⟨y, hy⟩ : ∃ y, nameJ b = y := ⟨_, rfl⟩
  have NB := Lib.hid hy
  clear hx0 hy
  have d1 : decide (a < 0) = true := decide_eq_true k1
  clear k1
  obtain ⟨k, hk⟩ : ∃ k, doJ j 1 now = k := ⟨_, rfl⟩
  obtain ⟨eh, heh⟩ : ∃ e, doE j 1 now = e := ⟨_, rfl⟩
  rw [heh] at g1
  have dh : (eh == 0) = false := by rw [beq_eq_false_iff_ne]; exact g1
  have EH := Lib.hid hk
  have EHE := Lib.hid heh
  clear hk heh g1
  obtain ⟨hc1, hc2⟩ := bad_do (what := 6) (now := now) fun h => of_decide_eq_false g2 h.1
  have ECE := Lib.hid hc1
  have EC := Lib.hid hc2
  have RT := Lib.hid g2
  clear hc1 hc2 g2
  clear hb0 hj hn ha hb h40
  go_enter Try.func5, Try.ntmps5
  go_wp2_with fail
  rw [← hW]
  refine (awake11_any H _).mono ?_
  rintro e w1 ⟨rfl, hb⟩
  have HBq := Lib.hid (HB.out.trans (hb.mono HB.out.size))
  clear HB
  have HB := HBq
  clear HBq
  have BXq := Lib.hid (BX.out.next hb)
  clear BX
  have BX := BXq
  clear BXq
  have JAq := Lib.hid (JA.out.next hb)
  clear JA
  have JA := JAq
  clear JAq
  clear hb
  clear hW
  have q0 := BX.out.c0
  have q1 := BX.out.c1
  have q2 := BX.out.c2
  have q3 := BX.out.c3
  have q4 := BX.out.c4
  have q5 := BX.out.c5
  have q6 := BX.out.c6
  have q7 := BX.out.c7
  have q8 := BX.out.c8
  have q9 := BX.out.c9
  have q10 := BX.out.c10
  have q11 := BX.out.c11
  have q12 := BX.out.c12
  go_wp2_with fail
  refine (h11_name H IA.out NA.out).mono ?_
  rintro e w2 ⟨rfl, hb⟩
  have HBq := Lib.hid (HB.out.trans (hb.mono HB.out.size))
  clear HB
  have HB := HBq
  clear HBq
  have BXq := Lib.hid (BX.out.next hb)
  clear BX
  have BX := BXq
  clear BXq
  have JAq := Lib.hid (JA.out.next hb)
  clear JA
  have JA := JAq
  clear JAq
  clear hb
  clear q0 q1 q2 q3 q4 q5 q6 q7 q8 q9 q10 q11 q12
  go_wp2_with fail
  refine (h11_name H IB.out NB.out).mono ?_
  rintro e w3 ⟨rfl, hb⟩
  have HBq := Lib.hid (HB.out.trans (hb.mono HB.out.size))
  clear HB
  have HB := HBq
  clear HBq
  have BXq := Lib.hid (BX.out.next hb)
  clear BX
  have BX := BXq
  clear BXq
  have JAq := Lib.hid (JA.out.next hb)
  clear JA
  have JA := JAq
  clear JAq
  clear hb
  have q0 := BX.out.c0
  have q1 := BX.out.c1
  have q2 := BX.out.c2
  have q3 := BX.out.c3
  have q4 := BX.out.c4
  have q5 := BX.out.c5
  have q6 := BX.out.c6
  have q7 := BX.out.c7
  have q8 := BX.out.c8
  have q9 := BX.out.c9
  have q10 := BX.out.c10
  have q11 := BX.out.c11
  have q12 := BX.out.c12
  go_wp2_with fail
  refine (h11_do H JA.out hmm I1.out IN.out EH.out EHE.out).mono ?_
  rintro e w4 ⟨⟨A1, m1, c1, rfl, hj1⟩, hb⟩
  have HBq := Lib.hid (HB.out.trans (hb.mono HB.out.size))
  clear HB
  have HB := HBq
  clear HBq
  have BXq := Lib.hid (BX.out.next hb)
  clear BX
  have BX := BXq
  clear BXq
  have JAq := Lib.hid (JA.out.next hb)
  clear JA
  have JA := JAq
  clear JAq
  clear hb
  have J1 := Lib.hid hj1
  clear hj1
  clear q0 q1 q2 q3 q4 q5 q6 q7 q8 q9 q10 q11 q12
  have hb := Below.alloc (Below.refl w4.heap.size w4) (Nat.le_refl _) (.cells #[.int .i64 k.id, .int .i64 k.spec.nodes, .int .i64 k.spec.cores, .int .i64 k.spec.gpus, .string k.spec.tag, .bool k.spec.whole, .int .i64 k.spec.long, .int .i64 k.spec.prio, .slice A1 m1 c1, .int .i64 k.state, .int .i64 k.came, .int .i64 k.frm, .int .i64 k.to] 26)
  have B1q := Lib.hid (boxJ_new w4 k A1 m1 c1)
  have HBq := Lib.hid (HB.out.trans (hb.mono HB.out.size))
  clear HB
  have HB := HBq
  clear HBq
  have BXq := Lib.hid (BX.out.next hb)
  clear BX
  have BX := BXq
  clear BXq
  have JAq := Lib.hid (JA.out.next hb)
  clear JA
  have JA := JAq
  clear JAq
  have J1q := Lib.hid (J1.out.next hb)
  clear J1
  have J1 := J1q
  clear J1q
  clear hb
  have B1 := B1q
  clear B1q
  have q0 := BX.out.c0
  have q1 := BX.out.c1
  have q2 := BX.out.c2
  have q3 := BX.out.c3
  have q4 := BX.out.c4
  have q5 := BX.out.c5
  have q6 := BX.out.c6
  have q7 := BX.out.c7
  have q8 := BX.out.c8
  have q9 := BX.out.c9
  have q10 := BX.out.c10
  have q11 := BX.out.c11
  have q12 := BX.out.c12
  go_wp2_with fail
  refine (h11_do H JA.out hmm I6.out IN.out EC.out ECE.out).mono ?_
  rintro e w5 ⟨⟨A5, m5, c5, rfl, hj5⟩, hb⟩
  have HBq := Lib.hid (HB.out.trans (hb.mono HB.out.size))
  clear HB
  have HB := HBq
  clear HBq
  have BXq := Lib.hid (BX.out.next hb)
  clear BX
  have BX := BXq
  clear BXq
  have JAq := Lib.hid (JA.out.next hb)
  clear JA
  have JA := JAq
  clear JAq
  have J1q := Lib.hid (J1.out.next hb)
  clear J1
  have J1 := J1q
  clear J1q
  have B1q := Lib.hid (B1.out.next hb)
  clear B1
  have B1 := B1q
  clear B1q
  clear hb
  have J5 := Lib.hid hj5
  clear hj5
  clear q0 q1 q2 q3 q4 q5 q6 q7 q8 q9 q10 q11 q12
  have hb := Below.alloc (Below.refl w5.heap.size w5) (Nat.le_refl _) (.cells #[.int .i64 j.id, .int .i64 j.spec.nodes, .int .i64 j.spec.cores, .int .i64 j.spec.gpus, .string j.spec.tag, .bool j.spec.whole, .int .i64 j.spec.long, .int .i64 j.spec.prio, .slice A5 m5 c5, .int .i64 j.state, .int .i64 j.came, .int .i64 j.frm, .int .i64 j.to] 26)
  have B5q := Lib.hid (boxJ_new w5 j A5 m5 c5)
  have HBq := Lib.hid (HB.out.trans (hb.mono HB.out.size))
  clear HB
  have HB := HBq
  clear HBq
  have BXq := Lib.hid (BX.out.next hb)
  clear BX
  have BX := BXq
  clear BXq
  have JAq := Lib.hid (JA.out.next hb)
  clear JA
  have JA := JAq
  clear JAq
  have J1q := Lib.hid (J1.out.next hb)
  clear J1
  have J1 := J1q
  clear J1q
  have B1q := Lib.hid (B1.out.next hb)
  clear B1
  have B1 := B1q
  clear B1q
  have J5q := Lib.hid (J5.out.next hb)
  clear J5
  have J5 := J5q
  clear J5q
  clear hb
  have B5 := B5q
  clear B5q
  have q0 := BX.out.c0
  have q1 := BX.out.c1
  have q2 := BX.out.c2
  have q3 := BX.out.c3
  have q4 := BX.out.c4
  have q5 := BX.out.c5
  have q6 := BX.out.c6
  have q7 := BX.out.c7
  have q8 := BX.out.c8
  have q9 := BX.out.c9
  have q10 := BX.out.c10
  have q11 := BX.out.c11
  have q12 := BX.out.c12
  have r0 := B5.out.c0
  have r1 := B5.out.c1
  have r2 := B5.out.c2
  have r3 := B5.out.c3
  have r4 := B5.out.c4
  have r5 := B5.out.c5
  have r6 := B5.out.c6
  have r7 := B5.out.c7
  have r8 := B5.out.c8
  have r9 := B5.out.c9
  have r10 := B5.out.c10
  have r11 := B5.out.c11
  have r12 := B5.out.c12
  go_wp2_with fail
  refine (h11_right H JA.out hmm RT.out).mono ?_
  rintro e w6 ⟨rfl, hb⟩
  have HBq := Lib.hid (HB.out.trans (hb.mono HB.out.size))
  clear HB
  have HB := HBq
  clear HBq
  have BXq := Lib.hid (BX.out.next hb)
  clear BX
  have BX := BXq
  clear BXq
  have JAq := Lib.hid (JA.out.next hb)
  clear JA
  have JA := JAq
  clear JAq
  have J1q := Lib.hid (J1.out.next hb)
  clear J1
  have J1 := J1q
  clear J1q
  have B1q := Lib.hid (B1.out.next hb)
  clear B1
  have B1 := B1q
  clear B1q
  have J5q := Lib.hid (J5.out.next hb)
  clear J5
  have J5 := J5q
  clear J5q
  have B5q := Lib.hid (B5.out.next hb)
  clear B5
  have B5 := B5q
  clear B5q
  clear hb
  clear q0 q1 q2 q3 q4 q5 q6 q7 q8 q9 q10 q11 q12 r0 r1 r2 r3 r4 r5 r6 r7 r8 r9 r10 r11 r12
  have q0 := BX.out.c0
  have q1 := BX.out.c1
  have q2 := BX.out.c2
  have q3 := BX.out.c3
  have q4 := BX.out.c4
  have q5 := BX.out.c5
  have q6 := BX.out.c6
  have q7 := BX.out.c7
  have q8 := BX.out.c8
  have q9 := BX.out.c9
  have q10 := BX.out.c10
  have q11 := BX.out.c11
  have q12 := BX.out.c12
  have r0 := B5.out.c0
  have r1 := B5.out.c1
  have r2 := B5.out.c2
  have r3 := B5.out.c3
  have r4 := B5.out.c4
  have r5 := B5.out.c5
  have r6 := B5.out.c6
  have r7 := B5.out.c7
  have r8 := B5.out.c8
  have r9 := B5.out.c9
  have r10 := B5.out.c10
  have r11 := B5.out.c11
  have r12 := B5.out.c12
  go_wp2_with fail
  refine (refSameJ_b J5.out JA.out (sameJ_iff.2 rfl)).mono ?_
  rintro e w7 ⟨rfl, hb⟩
  have HBq := Lib.hid (HB.out.trans (hb.mono HB.out.size))
  clear HB
  have HB := HBq
  clear HBq
  have BXq := Lib.hid (BX.out.next hb)
  clear BX
  have BX := BXq
  clear BXq
  have JAq := Lib.hid (JA.out.next hb)
  clear JA
  have JA := JAq
  clear JAq
  have J1q := Lib.hid (J1.out.next hb)
  clear J1
  have J1 := J1q
  clear J1q
  have B1q := Lib.hid (B1.out.next hb)
  clear B1
  have B1 := B1q
  clear B1q
  have J5q := Lib.hid (J5.out.next hb)
  clear J5
  have J5 := J5q
  clear J5q
  have B5q := Lib.hid (B5.out.next hb)
  clear B5
  have B5 := B5q
  clear B5q
  clear hb
  go_wp2
  go_ret
  exact ⟨rfl, HB.out⟩

set_option maxRecDepth 100000 in
set_option maxHeartbeats 8000000 in
theorem jobFree_o1a (H : JobOk) (A : Option Addr) (m c : Nat) (j : Jb) (now a b : Int) (w : World) (hj : JAsk w A m c j) (hn : I64 now) (ha : I64 a) (hb : I64 b) (h40 : ¬ 40 < m) (k1 : a < 0) (g1 : doE j 1 now ≠ 0) (g2 : rightJ j = true) (g3 : doE j 6 now = 1) :
    Calls Try.prog 5 #[.agg #[.int .i64 j.id, .int .i64 j.spec.nodes, .int .i64 j.spec.cores, .int .i64 j.spec.gpus, .string j.spec.tag, .bool j.spec.whole, .int .i64 j.spec.long, .int .i64 j.spec.prio, .slice A m c, .int .i64 j.state, .int .i64 j.came, .int .i64 j.frm, .int .i64 j.to], .int .i64 now, .int .i64 a, .int .i64 b] w fun e w' => e = .returned (.bool true) ∧ Below w.heap.size w w' := by
  obtain ⟨W, hW⟩ : ∃ W, W = w.alloc (jO j A m c) := ⟨_, rfl⟩
  have BX : Hid (BoxJ W w.heap.size j A m c) := Lib.hid (by rw [hW]; exact boxJ_new w j A m c)
  have hb0 : Below w.heap.size w W := by rw [hW]; exact (Below.refl _ _).alloc (Nat.le_refl _) _
  have HB := Lib.hid hb0
  have JA := Lib.hid (hj.next hb0)
  unfold jO at hW
  have h40d : decide ((40 : Int) < (m : Int)) = false := by simp; omega
  have hmm : m ≤ 100 := by omega
  have HML := Lib.hid hj.reads.1
  have IN := Lib.hid hn
  have IA := Lib.hid ha
  have IB := Lib.hid hb
  have IST := Lib.hid hj.int.2.1
  have I1 : Hid (I64 1) := Lib.hid (by unfold I64; omega)
  have I2 : Hid (I64 2) := Lib.hid (by unfold I64; omega)
  have I6 : Hid (I64 6) := Lib.hid (by unfold I64; omega)
  have hx0 : nameJ a = ⟨#[]⟩ := name_out (by omega)
  have NA := Lib.hid hx0
  obtain ⟨y, hy⟩ : ∃ y, nameJ b = y := ⟨_, rfl⟩
  have NB := Lib.hid hy
  clear hx0 hy
  have d1 : decide (a < 0) = true := decide_eq_true k1
  clear k1
  obtain ⟨k, hk⟩ : ∃ k, doJ j 1 now = k := ⟨_, rfl⟩
  obtain ⟨eh, heh⟩ : ∃ e, doE j 1 now = e := ⟨_, rfl⟩
  rw [heh] at g1
  have dh : (eh == 0) = false := by rw [beq_eq_false_iff_ne]; exact g1
  have EH := Lib.hid hk
  have EHE := Lib.hid heh
  clear hk heh g1
  have hc2 : doJ j 6 now = j := doJ_no (by rw [g3]; decide)
  have ECE := Lib.hid g3
  have EC := Lib.hid hc2
  have RT := Lib.hid g2
  clear hc2 g2 g3
  clear hb0 hj hn ha hb h40
  go_enter Try.func5, Try.ntmps5
  go_wp2_with fail
  rw [← hW]
  refine (awake11_any H _).mono ?_
  rintro e w1 ⟨rfl, hb⟩
  have HBq := Lib.hid (HB.out.trans (hb.mono HB.out.size))
  clear HB
  have HB := HBq
  clear HBq
  have BXq := Lib.hid (BX.out.next hb)
  clear BX
  have BX := BXq
  clear BXq
  have JAq := Lib.hid (JA.out.next hb)
  clear JA
  have JA := JAq
  clear JAq
  clear hb
  clear hW
  have q0 := BX.out.c0
  have q1 := BX.out.c1
  have q2 := BX.out.c2
  have q3 := BX.out.c3
  have q4 := BX.out.c4
  have q5 := BX.out.c5
  have q6 := BX.out.c6
  have q7 := BX.out.c7
  have q8 := BX.out.c8
  have q9 := BX.out.c9
  have q10 := BX.out.c10
  have q11 := BX.out.c11
  have q12 := BX.out.c12
  go_wp2_with fail
  refine (h11_name H IA.out NA.out).mono ?_
  rintro e w2 ⟨rfl, hb⟩
  have HBq := Lib.hid (HB.out.trans (hb.mono HB.out.size))
  clear HB
  have HB := HBq
  clear HBq
  have BXq := Lib.hid (BX.out.next hb)
  clear BX
  have BX := BXq
  clear BXq
  have JAq := Lib.hid (JA.out.next hb)
  clear JA
  have JA := JAq
  clear JAq
  clear hb
  clear q0 q1 q2 q3 q4 q5 q6 q7 q8 q9 q10 q11 q12
  go_wp2_with fail
  refine (h11_name H IB.out NB.out).mono ?_
  rintro e w3 ⟨rfl, hb⟩
  have HBq := Lib.hid (HB.out.trans (hb.mono HB.out.size))
  clear HB
  have HB := HBq
  clear HBq
  have BXq := Lib.hid (BX.out.next hb)
  clear BX
  have BX := BXq
  clear BXq
  have JAq := Lib.hid (JA.out.next hb)
  clear JA
  have JA := JAq
  clear JAq
  clear hb
  have q0 := BX.out.c0
  have q1 := BX.out.c1
  have q2 := BX.out.c2
  have q3 := BX.out.c3
  have q4 := BX.out.c4
  have q5 := BX.out.c5
  have q6 := BX.out.c6
  have q7 := BX.out.c7
  have q8 := BX.out.c8
  have q9 := BX.out.c9
  have q10 := BX.out.c10
  have q11 := BX.out.c11
  have q12 := BX.out.c12
  go_wp2_with fail
  refine (h11_do H JA.out hmm I1.out IN.out EH.out EHE.out).mono ?_
  rintro e w4 ⟨⟨A1, m1, c1, rfl, hj1⟩, hb⟩
  have HBq := Lib.hid (HB.out.trans (hb.mono HB.out.size))
  clear HB
  have HB := HBq
  clear HBq
  have BXq := Lib.hid (BX.out.next hb)
  clear BX
  have BX := BXq
  clear BXq
  have JAq := Lib.hid (JA.out.next hb)
  clear JA
  have JA := JAq
  clear JAq
  clear hb
  have J1 := Lib.hid hj1
  clear hj1
  clear q0 q1 q2 q3 q4 q5 q6 q7 q8 q9 q10 q11 q12
  have hb := Below.alloc (Below.refl w4.heap.size w4) (Nat.le_refl _) (.cells #[.int .i64 k.id, .int .i64 k.spec.nodes, .int .i64 k.spec.cores, .int .i64 k.spec.gpus, .string k.spec.tag, .bool k.spec.whole, .int .i64 k.spec.long, .int .i64 k.spec.prio, .slice A1 m1 c1, .int .i64 k.state, .int .i64 k.came, .int .i64 k.frm, .int .i64 k.to] 26)
  have B1q := Lib.hid (boxJ_new w4 k A1 m1 c1)
  have HBq := Lib.hid (HB.out.trans (hb.mono HB.out.size))
  clear HB
  have HB := HBq
  clear HBq
  have BXq := Lib.hid (BX.out.next hb)
  clear BX
  have BX := BXq
  clear BXq
  have JAq := Lib.hid (JA.out.next hb)
  clear JA
  have JA := JAq
  clear JAq
  have J1q := Lib.hid (J1.out.next hb)
  clear J1
  have J1 := J1q
  clear J1q
  clear hb
  have B1 := B1q
  clear B1q
  have q0 := BX.out.c0
  have q1 := BX.out.c1
  have q2 := BX.out.c2
  have q3 := BX.out.c3
  have q4 := BX.out.c4
  have q5 := BX.out.c5
  have q6 := BX.out.c6
  have q7 := BX.out.c7
  have q8 := BX.out.c8
  have q9 := BX.out.c9
  have q10 := BX.out.c10
  have q11 := BX.out.c11
  have q12 := BX.out.c12
  go_wp2_with fail
  refine (h11_do H JA.out hmm I6.out IN.out EC.out ECE.out).mono ?_
  rintro e w5 ⟨⟨A5, m5, c5, rfl, hj5⟩, hb⟩
  have HBq := Lib.hid (HB.out.trans (hb.mono HB.out.size))
  clear HB
  have HB := HBq
  clear HBq
  have BXq := Lib.hid (BX.out.next hb)
  clear BX
  have BX := BXq
  clear BXq
  have JAq := Lib.hid (JA.out.next hb)
  clear JA
  have JA := JAq
  clear JAq
  have J1q := Lib.hid (J1.out.next hb)
  clear J1
  have J1 := J1q
  clear J1q
  have B1q := Lib.hid (B1.out.next hb)
  clear B1
  have B1 := B1q
  clear B1q
  clear hb
  have J5 := Lib.hid hj5
  clear hj5
  clear q0 q1 q2 q3 q4 q5 q6 q7 q8 q9 q10 q11 q12
  have hb := Below.alloc (Below.refl w5.heap.size w5) (Nat.le_refl _) (.cells #[.int .i64 j.id, .int .i64 j.spec.nodes, .int .i64 j.spec.cores, .int .i64 j.spec.gpus, .string j.spec.tag, .bool j.spec.whole, .int .i64 j.spec.long, .int .i64 j.spec.prio, .slice A5 m5 c5, .int .i64 j.state, .int .i64 j.came, .int .i64 j.frm, .int .i64 j.to] 26)
  have B5q := Lib.hid (boxJ_new w5 j A5 m5 c5)
  have HBq := Lib.hid (HB.out.trans (hb.mono HB.out.size))
  clear HB
  have HB := HBq
  clear HBq
  have BXq := Lib.hid (BX.out.next hb)
  clear BX
  have BX := BXq
  clear BXq
  have JAq := Lib.hid (JA.out.next hb)
  clear JA
  have JA := JAq
  clear JAq
  have J1q := Lib.hid (J1.out.next hb)
  clear J1
  have J1 := J1q
  clear J1q
  have B1q := Lib.hid (B1.out.next hb)
  clear B1
  have B1 := B1q
  clear B1q
  have J5q := Lib.hid (J5.out.next hb)
  clear J5
  have J5 := J5q
  clear J5q
  clear hb
  have B5 := B5q
  clear B5q
  have q0 := BX.out.c0
  have q1 := BX.out.c1
  have q2 := BX.out.c2
  have q3 := BX.out.c3
  have q4 := BX.out.c4
  have q5 := BX.out.c5
  have q6 := BX.out.c6
  have q7 := BX.out.c7
  have q8 := BX.out.c8
  have q9 := BX.out.c9
  have q10 := BX.out.c10
  have q11 := BX.out.c11
  have q12 := BX.out.c12
  have r0 := B5.out.c0
  have r1 := B5.out.c1
  have r2 := B5.out.c2
  have r3 := B5.out.c3
  have r4 := B5.out.c4
  have r5 := B5.out.c5
  have r6 := B5.out.c6
  have r7 := B5.out.c7
  have r8 := B5.out.c8
  have r9 := B5.out.c9
  have r10 := B5.out.c10
  have r11 := B5.out.c11
  have r12 := B5.out.c12
  go_wp2_with fail
  refine (h11_right H JA.out hmm RT.out).mono ?_
  rintro e w6 ⟨rfl, hb⟩
  have HBq := Lib.hid (HB.out.trans (hb.mono HB.out.size))
  clear HB
  have HB := HBq
  clear HBq
  have BXq := Lib.hid (BX.out.next hb)
  clear BX
  have BX := BXq
  clear BXq
  have JAq := Lib.hid (JA.out.next hb)
  clear JA
  have JA := JAq
  clear JAq
  have J1q := Lib.hid (J1.out.next hb)
  clear J1
  have J1 := J1q
  clear J1q
  have B1q := Lib.hid (B1.out.next hb)
  clear B1
  have B1 := B1q
  clear B1q
  have J5q := Lib.hid (J5.out.next hb)
  clear J5
  have J5 := J5q
  clear J5q
  have B5q := Lib.hid (B5.out.next hb)
  clear B5
  have B5 := B5q
  clear B5q
  clear hb
  clear q0 q1 q2 q3 q4 q5 q6 q7 q8 q9 q10 q11 q12 r0 r1 r2 r3 r4 r5 r6 r7 r8 r9 r10 r11 r12
  have q0 := BX.out.c0
  have q1 := BX.out.c1
  have q2 := BX.out.c2
  have q3 := BX.out.c3
  have q4 := BX.out.c4
  have q5 := BX.out.c5
  have q6 := BX.out.c6
  have q7 := BX.out.c7
  have q8 := BX.out.c8
  have q9 := BX.out.c9
  have q10 := BX.out.c10
  have q11 := BX.out.c11
  have q12 := BX.out.c12
  have r0 := B5.out.c0
  have r1 := B5.out.c1
  have r2 := B5.out.c2
  have r3 := B5.out.c3
  have r4 := B5.out.c4
  have r5 := B5.out.c5
  have r6 := B5.out.c6
  have r7 := B5.out.c7
  have r8 := B5.out.c8
  have r9 := B5.out.c9
  have r10 := B5.out.c10
  have r11 := B5.out.c11
  have r12 := B5.out.c12
  go_wp2_with fail
  refine (refSameJ_b J5.out JA.out (sameJ_iff.2 rfl)).mono ?_
  rintro e w7 ⟨rfl, hb⟩
  have HBq := Lib.hid (HB.out.trans (hb.mono HB.out.size))
  clear HB
  have HB := HBq
  clear HBq
  have BXq := Lib.hid (BX.out.next hb)
  clear BX
  have BX := BXq
  clear BXq
  have JAq := Lib.hid (JA.out.next hb)
  clear JA
  have JA := JAq
  clear JAq
  have J1q := Lib.hid (J1.out.next hb)
  clear J1
  have J1 := J1q
  clear J1q
  have B1q := Lib.hid (B1.out.next hb)
  clear B1
  have B1 := B1q
  clear B1q
  have J5q := Lib.hid (J5.out.next hb)
  clear J5
  have J5 := J5q
  clear J5q
  have B5q := Lib.hid (B5.out.next hb)
  clear B5
  have B5 := B5q
  clear B5q
  clear hb
  go_wp2
  go_ret
  exact ⟨rfl, HB.out⟩

set_option maxRecDepth 100000 in
set_option maxHeartbeats 8000000 in
theorem jobFree_o1e (H : JobOk) (A : Option Addr) (m c : Nat) (j : Jb) (now a b : Int) (w : World) (hj : JAsk w A m c j) (hn : I64 now) (ha : I64 a) (hb : I64 b) (h40 : ¬ 40 < m) (k1 : a < 0) (g1 : doE j 1 now ≠ 0) (g2 : rightJ j = true) (g3 : doE j 6 now = 8) :
    Calls Try.prog 5 #[.agg #[.int .i64 j.id, .int .i64 j.spec.nodes, .int .i64 j.spec.cores, .int .i64 j.spec.gpus, .string j.spec.tag, .bool j.spec.whole, .int .i64 j.spec.long, .int .i64 j.spec.prio, .slice A m c, .int .i64 j.state, .int .i64 j.came, .int .i64 j.frm, .int .i64 j.to], .int .i64 now, .int .i64 a, .int .i64 b] w fun e w' => e = .returned (.bool true) ∧ Below w.heap.size w w' := by
  obtain ⟨W, hW⟩ : ∃ W, W = w.alloc (jO j A m c) := ⟨_, rfl⟩
  have BX : Hid (BoxJ W w.heap.size j A m c) := Lib.hid (by rw [hW]; exact boxJ_new w j A m c)
  have hb0 : Below w.heap.size w W := by rw [hW]; exact (Below.refl _ _).alloc (Nat.le_refl _) _
  have HB := Lib.hid hb0
  have JA := Lib.hid (hj.next hb0)
  unfold jO at hW
  have h40d : decide ((40 : Int) < (m : Int)) = false := by simp; omega
  have hmm : m ≤ 100 := by omega
  have HML := Lib.hid hj.reads.1
  have IN := Lib.hid hn
  have IA := Lib.hid ha
  have IB := Lib.hid hb
  have IST := Lib.hid hj.int.2.1
  have I1 : Hid (I64 1) := Lib.hid (by unfold I64; omega)
  have I2 : Hid (I64 2) := Lib.hid (by unfold I64; omega)
  have I6 : Hid (I64 6) := Lib.hid (by unfold I64; omega)
  have hx0 : nameJ a = ⟨#[]⟩ := name_out (by omega)
  have NA := Lib.hid hx0
  obtain ⟨y, hy⟩ : ∃ y, nameJ b = y := ⟨_, rfl⟩
  have NB := Lib.hid hy
  clear hx0 hy
  have d1 : decide (a < 0) = true := decide_eq_true k1
  clear k1
  obtain ⟨k, hk⟩ : ∃ k, doJ j 1 now = k := ⟨_, rfl⟩
  obtain ⟨eh, heh⟩ : ∃ e, doE j 1 now = e := ⟨_, rfl⟩
  rw [heh] at g1
  have dh : (eh == 0) = false := by rw [beq_eq_false_iff_ne]; exact g1
  have EH := Lib.hid hk
  have EHE := Lib.hid heh
  clear hk heh g1
  have hov := cancel_eight g3
  obtain ⟨kc, hkc⟩ : ∃ k, doJ j 6 now = k := ⟨_, rfl⟩
  have ECE := Lib.hid g3
  have EC := Lib.hid hkc
  have OV := Lib.hid hov
  have RT := Lib.hid g2
  clear hov hkc g2 g3
  clear hb0 hj hn ha hb h40
  go_enter Try.func5, Try.ntmps5
  go_wp2_with fail
  rw [← hW]
  refine (awake11_any H _).mono ?_
  rintro e w1 ⟨rfl, hb⟩
  have HBq := Lib.hid (HB.out.trans (hb.mono HB.out.size))
  clear HB
  have HB := HBq
  clear HBq
  have BXq := Lib.hid (BX.out.next hb)
  clear BX
  have BX := BXq
  clear BXq
  have JAq := Lib.hid (JA.out.next hb)
  clear JA
  have JA := JAq
  clear JAq
  clear hb
  clear hW
  have q0 := BX.out.c0
  have q1 := BX.out.c1
  have q2 := BX.out.c2
  have q3 := BX.out.c3
  have q4 := BX.out.c4
  have q5 := BX.out.c5
  have q6 := BX.out.c6
  have q7 := BX.out.c7
  have q8 := BX.out.c8
  have q9 := BX.out.c9
  have q10 := BX.out.c10
  have q11 := BX.out.c11
  have q12 := BX.out.c12
  go_wp2_with fail
  refine (h11_name H IA.out NA.out).mono ?_
  rintro e w2 ⟨rfl, hb⟩
  have HBq := Lib.hid (HB.out.trans (hb.mono HB.out.size))
  clear HB
  have HB := HBq
  clear HBq
  have BXq := Lib.hid (BX.out.next hb)
  clear BX
  have BX := BXq
  clear BXq
  have JAq := Lib.hid (JA.out.next hb)
  clear JA
  have JA := JAq
  clear JAq
  clear hb
  clear q0 q1 q2 q3 q4 q5 q6 q7 q8 q9 q10 q11 q12
  go_wp2_with fail
  refine (h11_name H IB.out NB.out).mono ?_
  rintro e w3 ⟨rfl, hb⟩
  have HBq := Lib.hid (HB.out.trans (hb.mono HB.out.size))
  clear HB
  have HB := HBq
  clear HBq
  have BXq := Lib.hid (BX.out.next hb)
  clear BX
  have BX := BXq
  clear BXq
  have JAq := Lib.hid (JA.out.next hb)
  clear JA
  have JA := JAq
  clear JAq
  clear hb
  have q0 := BX.out.c0
  have q1 := BX.out.c1
  have q2 := BX.out.c2
  have q3 := BX.out.c3
  have q4 := BX.out.c4
  have q5 := BX.out.c5
  have q6 := BX.out.c6
  have q7 := BX.out.c7
  have q8 := BX.out.c8
  have q9 := BX.out.c9
  have q10 := BX.out.c10
  have q11 := BX.out.c11
  have q12 := BX.out.c12
  go_wp2_with fail
  refine (h11_do H JA.out hmm I1.out IN.out EH.out EHE.out).mono ?_
  rintro e w4 ⟨⟨A1, m1, c1, rfl, hj1⟩, hb⟩
  have HBq := Lib.hid (HB.out.trans (hb.mono HB.out.size))
  clear HB
  have HB := HBq
  clear HBq
  have BXq := Lib.hid (BX.out.next hb)
  clear BX
  have BX := BXq
  clear BXq
  have JAq := Lib.hid (JA.out.next hb)
  clear JA
  have JA := JAq
  clear JAq
  clear hb
  have J1 := Lib.hid hj1
  clear hj1
  clear q0 q1 q2 q3 q4 q5 q6 q7 q8 q9 q10 q11 q12
  have hb := Below.alloc (Below.refl w4.heap.size w4) (Nat.le_refl _) (.cells #[.int .i64 k.id, .int .i64 k.spec.nodes, .int .i64 k.spec.cores, .int .i64 k.spec.gpus, .string k.spec.tag, .bool k.spec.whole, .int .i64 k.spec.long, .int .i64 k.spec.prio, .slice A1 m1 c1, .int .i64 k.state, .int .i64 k.came, .int .i64 k.frm, .int .i64 k.to] 26)
  have B1q := Lib.hid (boxJ_new w4 k A1 m1 c1)
  have HBq := Lib.hid (HB.out.trans (hb.mono HB.out.size))
  clear HB
  have HB := HBq
  clear HBq
  have BXq := Lib.hid (BX.out.next hb)
  clear BX
  have BX := BXq
  clear BXq
  have JAq := Lib.hid (JA.out.next hb)
  clear JA
  have JA := JAq
  clear JAq
  have J1q := Lib.hid (J1.out.next hb)
  clear J1
  have J1 := J1q
  clear J1q
  clear hb
  have B1 := B1q
  clear B1q
  have q0 := BX.out.c0
  have q1 := BX.out.c1
  have q2 := BX.out.c2
  have q3 := BX.out.c3
  have q4 := BX.out.c4
  have q5 := BX.out.c5
  have q6 := BX.out.c6
  have q7 := BX.out.c7
  have q8 := BX.out.c8
  have q9 := BX.out.c9
  have q10 := BX.out.c10
  have q11 := BX.out.c11
  have q12 := BX.out.c12
  go_wp2_with fail
  refine (h11_do H JA.out hmm I6.out IN.out EC.out ECE.out).mono ?_
  rintro e w5 ⟨⟨A5, m5, c5, rfl, hj5⟩, hb⟩
  have HBq := Lib.hid (HB.out.trans (hb.mono HB.out.size))
  clear HB
  have HB := HBq
  clear HBq
  have BXq := Lib.hid (BX.out.next hb)
  clear BX
  have BX := BXq
  clear BXq
  have JAq := Lib.hid (JA.out.next hb)
  clear JA
  have JA := JAq
  clear JAq
  have J1q := Lib.hid (J1.out.next hb)
  clear J1
  have J1 := J1q
  clear J1q
  have B1q := Lib.hid (B1.out.next hb)
  clear B1
  have B1 := B1q
  clear B1q
  clear hb
  have J5 := Lib.hid hj5
  clear hj5
  clear q0 q1 q2 q3 q4 q5 q6 q7 q8 q9 q10 q11 q12
  have hb := Below.alloc (Below.refl w5.heap.size w5) (Nat.le_refl _) (.cells #[.int .i64 kc.id, .int .i64 kc.spec.nodes, .int .i64 kc.spec.cores, .int .i64 kc.spec.gpus, .string kc.spec.tag, .bool kc.spec.whole, .int .i64 kc.spec.long, .int .i64 kc.spec.prio, .slice A5 m5 c5, .int .i64 kc.state, .int .i64 kc.came, .int .i64 kc.frm, .int .i64 kc.to] 26)
  have B5q := Lib.hid (boxJ_new w5 kc A5 m5 c5)
  have HBq := Lib.hid (HB.out.trans (hb.mono HB.out.size))
  clear HB
  have HB := HBq
  clear HBq
  have BXq := Lib.hid (BX.out.next hb)
  clear BX
  have BX := BXq
  clear BXq
  have JAq := Lib.hid (JA.out.next hb)
  clear JA
  have JA := JAq
  clear JAq
  have J1q := Lib.hid (J1.out.next hb)
  clear J1
  have J1 := J1q
  clear J1q
  have B1q := Lib.hid (B1.out.next hb)
  clear B1
  have B1 := B1q
  clear B1q
  have J5q := Lib.hid (J5.out.next hb)
  clear J5
  have J5 := J5q
  clear J5q
  clear hb
  have B5 := B5q
  clear B5q
  have q0 := BX.out.c0
  have q1 := BX.out.c1
  have q2 := BX.out.c2
  have q3 := BX.out.c3
  have q4 := BX.out.c4
  have q5 := BX.out.c5
  have q6 := BX.out.c6
  have q7 := BX.out.c7
  have q8 := BX.out.c8
  have q9 := BX.out.c9
  have q10 := BX.out.c10
  have q11 := BX.out.c11
  have q12 := BX.out.c12
  have r0 := B5.out.c0
  have r1 := B5.out.c1
  have r2 := B5.out.c2
  have r3 := B5.out.c3
  have r4 := B5.out.c4
  have r5 := B5.out.c5
  have r6 := B5.out.c6
  have r7 := B5.out.c7
  have r8 := B5.out.c8
  have r9 := B5.out.c9
  have r10 := B5.out.c10
  have r11 := B5.out.c11
  have r12 := B5.out.c12
  go_wp2_with fail
  refine (h11_right H JA.out hmm RT.out).mono ?_
  rintro e w6 ⟨rfl, hb⟩
  have HBq := Lib.hid (HB.out.trans (hb.mono HB.out.size))
  clear HB
  have HB := HBq
  clear HBq
  have BXq := Lib.hid (BX.out.next hb)
  clear BX
  have BX := BXq
  clear BXq
  have JAq := Lib.hid (JA.out.next hb)
  clear JA
  have JA := JAq
  clear JAq
  have J1q := Lib.hid (J1.out.next hb)
  clear J1
  have J1 := J1q
  clear J1q
  have B1q := Lib.hid (B1.out.next hb)
  clear B1
  have B1 := B1q
  clear B1q
  have J5q := Lib.hid (J5.out.next hb)
  clear J5
  have J5 := J5q
  clear J5q
  have B5q := Lib.hid (B5.out.next hb)
  clear B5
  have B5 := B5q
  clear B5q
  clear hb
  clear q0 q1 q2 q3 q4 q5 q6 q7 q8 q9 q10 q11 q12 r0 r1 r2 r3 r4 r5 r6 r7 r8 r9 r10 r11 r12
  have q0 := BX.out.c0
  have q1 := BX.out.c1
  have q2 := BX.out.c2
  have q3 := BX.out.c3
  have q4 := BX.out.c4
  have q5 := BX.out.c5
  have q6 := BX.out.c6
  have q7 := BX.out.c7
  have q8 := BX.out.c8
  have q9 := BX.out.c9
  have q10 := BX.out.c10
  have q11 := BX.out.c11
  have q12 := BX.out.c12
  have r0 := B5.out.c0
  have r1 := B5.out.c1
  have r2 := B5.out.c2
  have r3 := B5.out.c3
  have r4 := B5.out.c4
  have r5 := B5.out.c5
  have r6 := B5.out.c6
  have r7 := B5.out.c7
  have r8 := B5.out.c8
  have r9 := B5.out.c9
  have r10 := B5.out.c10
  have r11 := B5.out.c11
  have r12 := B5.out.c12
  go_wp2_with fail
  refine (h11_over H IST.out OV.out).mono ?_
  rintro e w7 ⟨rfl, hb⟩
  have HBq := Lib.hid (HB.out.trans (hb.mono HB.out.size))
  clear HB
  have HB := HBq
  clear HBq
  have BXq := Lib.hid (BX.out.next hb)
  clear BX
  have BX := BXq
  clear BXq
  have JAq := Lib.hid (JA.out.next hb)
  clear JA
  have JA := JAq
  clear JAq
  have J1q := Lib.hid (J1.out.next hb)
  clear J1
  have J1 := J1q
  clear J1q
  have B1q := Lib.hid (B1.out.next hb)
  clear B1
  have B1 := B1q
  clear B1q
  have J5q := Lib.hid (J5.out.next hb)
  clear J5
  have J5 := J5q
  clear J5q
  have B5q := Lib.hid (B5.out.next hb)
  clear B5
  have B5 := B5q
  clear B5q
  clear hb
  clear q0 q1 q2 q3 q4 q5 q6 q7 q8 q9 q10 q11 q12 r0 r1 r2 r3 r4 r5 r6 r7 r8 r9 r10 r11 r12
  have q0 := BX.out.c0
  have q1 := BX.out.c1
  have q2 := BX.out.c2
  have q3 := BX.out.c3
  have q4 := BX.out.c4
  have q5 := BX.out.c5
  have q6 := BX.out.c6
  have q7 := BX.out.c7
  have q8 := BX.out.c8
  have q9 := BX.out.c9
  have q10 := BX.out.c10
  have q11 := BX.out.c11
  have q12 := BX.out.c12
  have r0 := B5.out.c0
  have r1 := B5.out.c1
  have r2 := B5.out.c2
  have r3 := B5.out.c3
  have r4 := B5.out.c4
  have r5 := B5.out.c5
  have r6 := B5.out.c6
  have r7 := B5.out.c7
  have r8 := B5.out.c8
  have r9 := B5.out.c9
  have r10 := B5.out.c10
  have r11 := B5.out.c11
  have r12 := B5.out.c12
  go_wp2
  go_ret
  exact ⟨rfl, HB.out⟩

set_option maxRecDepth 100000 in
set_option maxHeartbeats 8000000 in
theorem jobFree_o1c (H : JobOk) (A : Option Addr) (m c : Nat) (j : Jb) (now a b : Int) (w : World) (hj : JAsk w A m c j) (hn : I64 now) (ha : I64 a) (hb : I64 b) (h40 : ¬ 40 < m) (k1 : a < 0) (g1 : doE j 1 now ≠ 0) (g2 : rightJ j = true) (g3 : doE j 6 now = 0) :
    Calls Try.prog 5 #[.agg #[.int .i64 j.id, .int .i64 j.spec.nodes, .int .i64 j.spec.cores, .int .i64 j.spec.gpus, .string j.spec.tag, .bool j.spec.whole, .int .i64 j.spec.long, .int .i64 j.spec.prio, .slice A m c, .int .i64 j.state, .int .i64 j.came, .int .i64 j.frm, .int .i64 j.to], .int .i64 now, .int .i64 a, .int .i64 b] w fun e w' => e = .returned (.bool true) ∧ Below w.heap.size w w' := by
  obtain ⟨W, hW⟩ : ∃ W, W = w.alloc (jO j A m c) := ⟨_, rfl⟩
  have BX : Hid (BoxJ W w.heap.size j A m c) := Lib.hid (by rw [hW]; exact boxJ_new w j A m c)
  have hb0 : Below w.heap.size w W := by rw [hW]; exact (Below.refl _ _).alloc (Nat.le_refl _) _
  have HB := Lib.hid hb0
  have JA := Lib.hid (hj.next hb0)
  unfold jO at hW
  have h40d : decide ((40 : Int) < (m : Int)) = false := by simp; omega
  have hmm : m ≤ 100 := by omega
  have HML := Lib.hid hj.reads.1
  have IN := Lib.hid hn
  have IA := Lib.hid ha
  have IB := Lib.hid hb
  have IST := Lib.hid hj.int.2.1
  have I1 : Hid (I64 1) := Lib.hid (by unfold I64; omega)
  have I2 : Hid (I64 2) := Lib.hid (by unfold I64; omega)
  have I6 : Hid (I64 6) := Lib.hid (by unfold I64; omega)
  have hx0 : nameJ a = ⟨#[]⟩ := name_out (by omega)
  have NA := Lib.hid hx0
  obtain ⟨y, hy⟩ : ∃ y, nameJ b = y := ⟨_, rfl⟩
  have NB := Lib.hid hy
  clear hx0 hy
  have d1 : decide (a < 0) = true := decide_eq_true k1
  clear k1
  obtain ⟨k, hk⟩ : ∃ k, doJ j 1 now = k := ⟨_, rfl⟩
  obtain ⟨eh, heh⟩ : ∃ e, doE j 1 now = e := ⟨_, rfl⟩
  rw [heh] at g1
  have dh : (eh == 0) = false := by rw [beq_eq_false_iff_ne]; exact g1
  have EH := Lib.hid hk
  have EHE := Lib.hid heh
  clear hk heh g1
  obtain ⟨hov, hcd⟩ := cancel_does g3
  have ECE := Lib.hid g3
  have EC := Lib.hid hcd
  have OV := Lib.hid hov
  have RT := Lib.hid g2
  clear hov hcd g2 g3
  clear hb0 hj hn ha hb h40
  go_enter Try.func5, Try.ntmps5
  go_wp2_with fail
  rw [← hW]
  refine (awake11_any H _).mono ?_
  rintro e w1 ⟨rfl, hb⟩
  have HBq := Lib.hid (HB.out.trans (hb.mono HB.out.size))
  clear HB
  have HB := HBq
  clear HBq
  have BXq := Lib.hid (BX.out.next hb)
  clear BX
  have BX := BXq
  clear BXq
  have JAq := Lib.hid (JA.out.next hb)
  clear JA
  have JA := JAq
  clear JAq
  clear hb
  clear hW
  have q0 := BX.out.c0
  have q1 := BX.out.c1
  have q2 := BX.out.c2
  have q3 := BX.out.c3
  have q4 := BX.out.c4
  have q5 := BX.out.c5
  have q6 := BX.out.c6
  have q7 := BX.out.c7
  have q8 := BX.out.c8
  have q9 := BX.out.c9
  have q10 := BX.out.c10
  have q11 := BX.out.c11
  have q12 := BX.out.c12
  go_wp2_with fail
  refine (h11_name H IA.out NA.out).mono ?_
  rintro e w2 ⟨rfl, hb⟩
  have HBq := Lib.hid (HB.out.trans (hb.mono HB.out.size))
  clear HB
  have HB := HBq
  clear HBq
  have BXq := Lib.hid (BX.out.next hb)
  clear BX
  have BX := BXq
  clear BXq
  have JAq := Lib.hid (JA.out.next hb)
  clear JA
  have JA := JAq
  clear JAq
  clear hb
  clear q0 q1 q2 q3 q4 q5 q6 q7 q8 q9 q10 q11 q12
  go_wp2_with fail
  refine (h11_name H IB.out NB.out).mono ?_
  rintro e w3 ⟨rfl, hb⟩
  have HBq := Lib.hid (HB.out.trans (hb.mono HB.out.size))
  clear HB
  have HB := HBq
  clear HBq
  have BXq := Lib.hid (BX.out.next hb)
  clear BX
  have BX := BXq
  clear BXq
  have JAq := Lib.hid (JA.out.next hb)
  clear JA
  have JA := JAq
  clear JAq
  clear hb
  have q0 := BX.out.c0
  have q1 := BX.out.c1
  have q2 := BX.out.c2
  have q3 := BX.out.c3
  have q4 := BX.out.c4
  have q5 := BX.out.c5
  have q6 := BX.out.c6
  have q7 := BX.out.c7
  have q8 := BX.out.c8
  have q9 := BX.out.c9
  have q10 := BX.out.c10
  have q11 := BX.out.c11
  have q12 := BX.out.c12
  go_wp2_with fail
  refine (h11_do H JA.out hmm I1.out IN.out EH.out EHE.out).mono ?_
  rintro e w4 ⟨⟨A1, m1, c1, rfl, hj1⟩, hb⟩
  have HBq := Lib.hid (HB.out.trans (hb.mono HB.out.size))
  clear HB
  have HB := HBq
  clear HBq
  have BXq := Lib.hid (BX.out.next hb)
  clear BX
  have BX := BXq
  clear BXq
  have JAq := Lib.hid (JA.out.next hb)
  clear JA
  have JA := JAq
  clear JAq
  clear hb
  have J1 := Lib.hid hj1
  clear hj1
  clear q0 q1 q2 q3 q4 q5 q6 q7 q8 q9 q10 q11 q12
  have hb := Below.alloc (Below.refl w4.heap.size w4) (Nat.le_refl _) (.cells #[.int .i64 k.id, .int .i64 k.spec.nodes, .int .i64 k.spec.cores, .int .i64 k.spec.gpus, .string k.spec.tag, .bool k.spec.whole, .int .i64 k.spec.long, .int .i64 k.spec.prio, .slice A1 m1 c1, .int .i64 k.state, .int .i64 k.came, .int .i64 k.frm, .int .i64 k.to] 26)
  have B1q := Lib.hid (boxJ_new w4 k A1 m1 c1)
  have HBq := Lib.hid (HB.out.trans (hb.mono HB.out.size))
  clear HB
  have HB := HBq
  clear HBq
  have BXq := Lib.hid (BX.out.next hb)
  clear BX
  have BX := BXq
  clear BXq
  have JAq := Lib.hid (JA.out.next hb)
  clear JA
  have JA := JAq
  clear JAq
  have J1q := Lib.hid (J1.out.next hb)
  clear J1
  have J1 := J1q
  clear J1q
  clear hb
  have B1 := B1q
  clear B1q
  have q0 := BX.out.c0
  have q1 := BX.out.c1
  have q2 := BX.out.c2
  have q3 := BX.out.c3
  have q4 := BX.out.c4
  have q5 := BX.out.c5
  have q6 := BX.out.c6
  have q7 := BX.out.c7
  have q8 := BX.out.c8
  have q9 := BX.out.c9
  have q10 := BX.out.c10
  have q11 := BX.out.c11
  have q12 := BX.out.c12
  go_wp2_with fail
  refine (h11_do H JA.out hmm I6.out IN.out EC.out ECE.out).mono ?_
  rintro e w5 ⟨⟨A5, m5, c5, rfl, hj5⟩, hb⟩
  have HBq := Lib.hid (HB.out.trans (hb.mono HB.out.size))
  clear HB
  have HB := HBq
  clear HBq
  have BXq := Lib.hid (BX.out.next hb)
  clear BX
  have BX := BXq
  clear BXq
  have JAq := Lib.hid (JA.out.next hb)
  clear JA
  have JA := JAq
  clear JAq
  have J1q := Lib.hid (J1.out.next hb)
  clear J1
  have J1 := J1q
  clear J1q
  have B1q := Lib.hid (B1.out.next hb)
  clear B1
  have B1 := B1q
  clear B1q
  clear hb
  have J5 := Lib.hid hj5
  clear hj5
  clear q0 q1 q2 q3 q4 q5 q6 q7 q8 q9 q10 q11 q12
  have hb := Below.alloc (Below.refl w5.heap.size w5) (Nat.le_refl _) (.cells #[.int .i64 j.id, .int .i64 j.spec.nodes, .int .i64 j.spec.cores, .int .i64 j.spec.gpus, .string j.spec.tag, .bool j.spec.whole, .int .i64 j.spec.long, .int .i64 j.spec.prio, .slice A5 m5 c5, .int .i64 5, .int .i64 j.came, .int .i64 j.frm, .int .i64 now] 26)
  have B5q := Lib.hid (boxJ_new w5 ⟨j.id, j.spec, j.needs, 5, j.came, j.frm, now⟩ A5 m5 c5)
  have HBq := Lib.hid (HB.out.trans (hb.mono HB.out.size))
  clear HB
  have HB := HBq
  clear HBq
  have BXq := Lib.hid (BX.out.next hb)
  clear BX
  have BX := BXq
  clear BXq
  have JAq := Lib.hid (JA.out.next hb)
  clear JA
  have JA := JAq
  clear JAq
  have J1q := Lib.hid (J1.out.next hb)
  clear J1
  have J1 := J1q
  clear J1q
  have B1q := Lib.hid (B1.out.next hb)
  clear B1
  have B1 := B1q
  clear B1q
  have J5q := Lib.hid (J5.out.next hb)
  clear J5
  have J5 := J5q
  clear J5q
  clear hb
  have B5 := B5q
  clear B5q
  have q0 := BX.out.c0
  have q1 := BX.out.c1
  have q2 := BX.out.c2
  have q3 := BX.out.c3
  have q4 := BX.out.c4
  have q5 := BX.out.c5
  have q6 := BX.out.c6
  have q7 := BX.out.c7
  have q8 := BX.out.c8
  have q9 := BX.out.c9
  have q10 := BX.out.c10
  have q11 := BX.out.c11
  have q12 := BX.out.c12
  have r0 := B5.out.c0
  have r1 := B5.out.c1
  have r2 := B5.out.c2
  have r3 := B5.out.c3
  have r4 := B5.out.c4
  have r5 := B5.out.c5
  have r6 := B5.out.c6
  have r7 := B5.out.c7
  have r8 := B5.out.c8
  have r9 := B5.out.c9
  have r10 := B5.out.c10
  have r11 := B5.out.c11
  have r12 := B5.out.c12
  simp only at r9 r11 r12
  go_wp2_with fail
  refine (h11_right H JA.out hmm RT.out).mono ?_
  rintro e w6 ⟨rfl, hb⟩
  have HBq := Lib.hid (HB.out.trans (hb.mono HB.out.size))
  clear HB
  have HB := HBq
  clear HBq
  have BXq := Lib.hid (BX.out.next hb)
  clear BX
  have BX := BXq
  clear BXq
  have JAq := Lib.hid (JA.out.next hb)
  clear JA
  have JA := JAq
  clear JAq
  have J1q := Lib.hid (J1.out.next hb)
  clear J1
  have J1 := J1q
  clear J1q
  have B1q := Lib.hid (B1.out.next hb)
  clear B1
  have B1 := B1q
  clear B1q
  have J5q := Lib.hid (J5.out.next hb)
  clear J5
  have J5 := J5q
  clear J5q
  have B5q := Lib.hid (B5.out.next hb)
  clear B5
  have B5 := B5q
  clear B5q
  clear hb
  clear q0 q1 q2 q3 q4 q5 q6 q7 q8 q9 q10 q11 q12 r0 r1 r2 r3 r4 r5 r6 r7 r8 r9 r10 r11 r12
  have q0 := BX.out.c0
  have q1 := BX.out.c1
  have q2 := BX.out.c2
  have q3 := BX.out.c3
  have q4 := BX.out.c4
  have q5 := BX.out.c5
  have q6 := BX.out.c6
  have q7 := BX.out.c7
  have q8 := BX.out.c8
  have q9 := BX.out.c9
  have q10 := BX.out.c10
  have q11 := BX.out.c11
  have q12 := BX.out.c12
  have r0 := B5.out.c0
  have r1 := B5.out.c1
  have r2 := B5.out.c2
  have r3 := B5.out.c3
  have r4 := B5.out.c4
  have r5 := B5.out.c5
  have r6 := B5.out.c6
  have r7 := B5.out.c7
  have r8 := B5.out.c8
  have r9 := B5.out.c9
  have r10 := B5.out.c10
  have r11 := B5.out.c11
  have r12 := B5.out.c12
  simp only at r9 r11 r12
  go_wp2_with fail
  refine (h11_over H IST.out OV.out).mono ?_
  rintro e w7 ⟨rfl, hb⟩
  have HBq := Lib.hid (HB.out.trans (hb.mono HB.out.size))
  clear HB
  have HB := HBq
  clear HBq
  have BXq := Lib.hid (BX.out.next hb)
  clear BX
  have BX := BXq
  clear BXq
  have JAq := Lib.hid (JA.out.next hb)
  clear JA
  have JA := JAq
  clear JAq
  have J1q := Lib.hid (J1.out.next hb)
  clear J1
  have J1 := J1q
  clear J1q
  have B1q := Lib.hid (B1.out.next hb)
  clear B1
  have B1 := B1q
  clear B1q
  have J5q := Lib.hid (J5.out.next hb)
  clear J5
  have J5 := J5q
  clear J5q
  have B5q := Lib.hid (B5.out.next hb)
  clear B5
  have B5 := B5q
  clear B5q
  clear hb
  clear q0 q1 q2 q3 q4 q5 q6 q7 q8 q9 q10 q11 q12 r0 r1 r2 r3 r4 r5 r6 r7 r8 r9 r10 r11 r12
  have q0 := BX.out.c0
  have q1 := BX.out.c1
  have q2 := BX.out.c2
  have q3 := BX.out.c3
  have q4 := BX.out.c4
  have q5 := BX.out.c5
  have q6 := BX.out.c6
  have q7 := BX.out.c7
  have q8 := BX.out.c8
  have q9 := BX.out.c9
  have q10 := BX.out.c10
  have q11 := BX.out.c11
  have q12 := BX.out.c12
  have r0 := B5.out.c0
  have r1 := B5.out.c1
  have r2 := B5.out.c2
  have r3 := B5.out.c3
  have r4 := B5.out.c4
  have r5 := B5.out.c5
  have r6 := B5.out.c6
  have r7 := B5.out.c7
  have r8 := B5.out.c8
  have r9 := B5.out.c9
  have r10 := B5.out.c10
  have r11 := B5.out.c11
  have r12 := B5.out.c12
  simp only at r9 r11 r12
  go_wp2
  go_ret
  exact ⟨rfl, HB.out⟩

set_option maxRecDepth 100000 in
set_option maxHeartbeats 8000000 in
theorem jobFree_o2h (H : JobOk) (A : Option Addr) (m c : Nat) (j : Jb) (now a b : Int) (w : World) (hj : JAsk w A m c j) (hn : I64 now) (ha : I64 a) (hb : I64 b) (h40 : ¬ 40 < m) (k1 : 6 < a) (g1 : doE j 1 now = 0) :
    Calls Try.prog 5 #[.agg #[.int .i64 j.id, .int .i64 j.spec.nodes, .int .i64 j.spec.cores, .int .i64 j.spec.gpus, .string j.spec.tag, .bool j.spec.whole, .int .i64 j.spec.long, .int .i64 j.spec.prio, .slice A m c, .int .i64 j.state, .int .i64 j.came, .int .i64 j.frm, .int .i64 j.to], .int .i64 now, .int .i64 a, .int .i64 b] w fun e w' => e = .returned (.bool true) ∧ Below w.heap.size w w' := by
  obtain ⟨W, hW⟩ : ∃ W, W = w.alloc (jO j A m c) := ⟨_, rfl⟩
  have BX : Hid (BoxJ W w.heap.size j A m c) := Lib.hid (by rw [hW]; exact boxJ_new w j A m c)
  have hb0 : Below w.heap.size w W := by rw [hW]; exact (Below.refl _ _).alloc (Nat.le_refl _) _
  have HB := Lib.hid hb0
  have JA := Lib.hid (hj.next hb0)
  unfold jO at hW
  have h40d : decide ((40 : Int) < (m : Int)) = false := by simp; omega
  have hmm : m ≤ 100 := by omega
  have HML := Lib.hid hj.reads.1
  have IN := Lib.hid hn
  have IA := Lib.hid ha
  have IB := Lib.hid hb
  have IST := Lib.hid hj.int.2.1
  have I1 : Hid (I64 1) := Lib.hid (by unfold I64; omega)
  have I2 : Hid (I64 2) := Lib.hid (by unfold I64; omega)
  have I6 : Hid (I64 6) := Lib.hid (by unfold I64; omega)
  have hx0 : nameJ a = ⟨#[]⟩ := name_out (by omega)
  have NA := Lib.hid hx0
  obtain ⟨y, hy⟩ : ∃ y, nameJ b = y := ⟨_, rfl⟩
  have NB := Lib.hid hy
  clear hx0 hy
  have d1 : decide (a < 0) = false := decide_eq_false (by omega)
  have d2 : decide (6 < a) = true := decide_eq_true k1
  clear k1
  obtain ⟨hf1, hf2⟩ := hold_free g1
  have hcz := hold_cancel g1
  obtain ⟨hov, hcd⟩ := cancel_does hcz
  have hrt : rightJ j = true := decide_eq_true (do_ok.1 g1).1.1
  obtain ⟨k, hk⟩ : ∃ k, doJ j 1 now = k := ⟨_, rfl⟩
  rw [hk] at hf1 hf2
  have EH := Lib.hid hk
  have EHE := Lib.hid g1
  have EF := Lib.hid hf2
  have EFE := Lib.hid hf1
  have EC := Lib.hid hcd
  have ECE := Lib.hid hcz
  have OV := Lib.hid hov
  have RT := Lib.hid hrt
  clear hf1 hf2 hcz hov hcd hrt hk g1
  clear hb0 hj hn ha hb h40
  go_enter Try.func5, Try.ntmps5
  go_wp2_with fail
  rw [← hW]
  refine (awake11_any H _).mono ?_
  rintro e w1 ⟨rfl, hb⟩
  have HBq := Lib.hid (HB.out.trans (hb.mono HB.out.size))
  clear HB
  have HB := HBq
  clear HBq
  have BXq := Lib.hid (BX.out.next hb)
  clear BX
  have BX := BXq
  clear BXq
  have JAq := Lib.hid (JA.out.next hb)
  clear JA
  have JA := JAq
  clear JAq
  clear hb
  clear hW
  have q0 := BX.out.c0
  have q1 := BX.out.c1
  have q2 := BX.out.c2
  have q3 := BX.out.c3
  have q4 := BX.out.c4
  have q5 := BX.out.c5
  have q6 := BX.out.c6
  have q7 := BX.out.c7
  have q8 := BX.out.c8
  have q9 := BX.out.c9
  have q10 := BX.out.c10
  have q11 := BX.out.c11
  have q12 := BX.out.c12
  go_wp2_with fail
  refine (h11_name H IA.out NA.out).mono ?_
  rintro e w2 ⟨rfl, hb⟩
  have HBq := Lib.hid (HB.out.trans (hb.mono HB.out.size))
  clear HB
  have HB := HBq
  clear HBq
  have BXq := Lib.hid (BX.out.next hb)
  clear BX
  have BX := BXq
  clear BXq
  have JAq := Lib.hid (JA.out.next hb)
  clear JA
  have JA := JAq
  clear JAq
  clear hb
  clear q0 q1 q2 q3 q4 q5 q6 q7 q8 q9 q10 q11 q12
  go_wp2_with fail
  refine (h11_name H IB.out NB.out).mono ?_
  rintro e w3 ⟨rfl, hb⟩
  have HBq := Lib.hid (HB.out.trans (hb.mono HB.out.size))
  clear HB
  have HB := HBq
  clear HBq
  have BXq := Lib.hid (BX.out.next hb)
  clear BX
  have BX := BXq
  clear BXq
  have JAq := Lib.hid (JA.out.next hb)
  clear JA
  have JA := JAq
  clear JAq
  clear hb
  have q0 := BX.out.c0
  have q1 := BX.out.c1
  have q2 := BX.out.c2
  have q3 := BX.out.c3
  have q4 := BX.out.c4
  have q5 := BX.out.c5
  have q6 := BX.out.c6
  have q7 := BX.out.c7
  have q8 := BX.out.c8
  have q9 := BX.out.c9
  have q10 := BX.out.c10
  have q11 := BX.out.c11
  have q12 := BX.out.c12
  go_wp2_with fail
  refine (h11_do H JA.out hmm I1.out IN.out EH.out EHE.out).mono ?_
  rintro e w4 ⟨⟨A1, m1, c1, rfl, hj1⟩, hb⟩
  have HBq := Lib.hid (HB.out.trans (hb.mono HB.out.size))
  clear HB
  have HB := HBq
  clear HBq
  have BXq := Lib.hid (BX.out.next hb)
  clear BX
  have BX := BXq
  clear BXq
  have JAq := Lib.hid (JA.out.next hb)
  clear JA
  have JA := JAq
  clear JAq
  clear hb
  have J1 := Lib.hid hj1
  clear hj1
  clear q0 q1 q2 q3 q4 q5 q6 q7 q8 q9 q10 q11 q12
  have hb := Below.alloc (Below.refl w4.heap.size w4) (Nat.le_refl _) (.cells #[.int .i64 k.id, .int .i64 k.spec.nodes, .int .i64 k.spec.cores, .int .i64 k.spec.gpus, .string k.spec.tag, .bool k.spec.whole, .int .i64 k.spec.long, .int .i64 k.spec.prio, .slice A1 m1 c1, .int .i64 k.state, .int .i64 k.came, .int .i64 k.frm, .int .i64 k.to] 26)
  have B1q := Lib.hid (boxJ_new w4 k A1 m1 c1)
  have HBq := Lib.hid (HB.out.trans (hb.mono HB.out.size))
  clear HB
  have HB := HBq
  clear HBq
  have BXq := Lib.hid (BX.out.next hb)
  clear BX
  have BX := BXq
  clear BXq
  have JAq := Lib.hid (JA.out.next hb)
  clear JA
  have JA := JAq
  clear JAq
  have J1q := Lib.hid (J1.out.next hb)
  clear J1
  have J1 := J1q
  clear J1q
  clear hb
  have B1 := B1q
  clear B1q
  have q0 := BX.out.c0
  have q1 := BX.out.c1
  have q2 := BX.out.c2
  have q3 := BX.out.c3
  have q4 := BX.out.c4
  have q5 := BX.out.c5
  have q6 := BX.out.c6
  have q7 := BX.out.c7
  have q8 := BX.out.c8
  have q9 := BX.out.c9
  have q10 := BX.out.c10
  have q11 := BX.out.c11
  have q12 := BX.out.c12
  have hk100 : m1 ≤ 100 := by
    have h1 := J1.out.reads.1
    rw [← h1, ← EH.out, doJ_ok EHE.out]
    show j.needs.length ≤ 100
    rw [HML.out]; exact hmm
  have r0 := B1.out.c0
  have r1 := B1.out.c1
  have r2 := B1.out.c2
  have r3 := B1.out.c3
  have r4 := B1.out.c4
  have r5 := B1.out.c5
  have r6 := B1.out.c6
  have r7 := B1.out.c7
  have r8 := B1.out.c8
  have r9 := B1.out.c9
  have r10 := B1.out.c10
  have r11 := B1.out.c11
  have r12 := B1.out.c12
  go_wp2_with fail
  refine (h11_do H J1.out hk100 I2.out IN.out EF.out EFE.out).mono ?_
  rintro e w5 ⟨⟨A2, m2, c2, rfl, hj2⟩, hb⟩
  have HBq := Lib.hid (HB.out.trans (hb.mono HB.out.size))
  clear HB
  have HB := HBq
  clear HBq
  have BXq := Lib.hid (BX.out.next hb)
  clear BX
  have BX := BXq
  clear BXq
  have JAq := Lib.hid (JA.out.next hb)
  clear JA
  have JA := JAq
  clear JAq
  have J1q := Lib.hid (J1.out.next hb)
  clear J1
  have J1 := J1q
  clear J1q
  have B1q := Lib.hid (B1.out.next hb)
  clear B1
  have B1 := B1q
  clear B1q
  clear hb
  have J2 := Lib.hid hj2
  clear hj2
  clear q0 q1 q2 q3 q4 q5 q6 q7 q8 q9 q10 q11 q12 r0 r1 r2 r3 r4 r5 r6 r7 r8 r9 r10 r11 r12
  clear B1
  clear J1
  have hb := Below.alloc (Below.refl w5.heap.size w5) (Nat.le_refl _) (.cells #[.int .i64 j.id, .int .i64 j.spec.nodes, .int .i64 j.spec.cores, .int .i64 j.spec.gpus, .string j.spec.tag, .bool j.spec.whole, .int .i64 j.spec.long, .int .i64 j.spec.prio, .slice A2 m2 c2, .int .i64 j.state, .int .i64 j.came, .int .i64 j.frm, .int .i64 j.to] 26)
  have B2q := Lib.hid (boxJ_new w5 j A2 m2 c2)
  have HBq := Lib.hid (HB.out.trans (hb.mono HB.out.size))
  clear HB
  have HB := HBq
  clear HBq
  have BXq := Lib.hid (BX.out.next hb)
  clear BX
  have BX := BXq
  clear BXq
  have JAq := Lib.hid (JA.out.next hb)
  clear JA
  have JA := JAq
  clear JAq
  have J2q := Lib.hid (J2.out.next hb)
  clear J2
  have J2 := J2q
  clear J2q
  clear hb
  have B2 := B2q
  clear B2q
  have q0 := BX.out.c0
  have q1 := BX.out.c1
  have q2 := BX.out.c2
  have q3 := BX.out.c3
  have q4 := BX.out.c4
  have q5 := BX.out.c5
  have q6 := BX.out.c6
  have q7 := BX.out.c7
  have q8 := BX.out.c8
  have q9 := BX.out.c9
  have q10 := BX.out.c10
  have q11 := BX.out.c11
  have q12 := BX.out.c12
  have r0 := B2.out.c0
  have r1 := B2.out.c1
  have r2 := B2.out.c2
  have r3 := B2.out.c3
  have r4 := B2.out.c4
  have r5 := B2.out.c5
  have r6 := B2.out.c6
  have r7 := B2.out.c7
  have r8 := B2.out.c8
  have r9 := B2.out.c9
  have r10 := B2.out.c10
  have r11 := B2.out.c11
  have r12 := B2.out.c12
  go_wp2_with fail
  refine (refSameJ_b J2.out JA.out (sameJ_iff.2 rfl)).mono ?_
  rintro e w6 ⟨rfl, hb⟩
  have HBq := Lib.hid (HB.out.trans (hb.mono HB.out.size))
  clear HB
  have HB := HBq
  clear HBq
  have BXq := Lib.hid (BX.out.next hb)
  clear BX
  have BX := BXq
  clear BXq
  have JAq := Lib.hid (JA.out.next hb)
  clear JA
  have JA := JAq
  clear JAq
  have J2q := Lib.hid (J2.out.next hb)
  clear J2
  have J2 := J2q
  clear J2q
  have B2q := Lib.hid (B2.out.next hb)
  clear B2
  have B2 := B2q
  clear B2q
  clear hb
  clear q0 q1 q2 q3 q4 q5 q6 q7 q8 q9 q10 q11 q12 r0 r1 r2 r3 r4 r5 r6 r7 r8 r9 r10 r11 r12
  have q0 := BX.out.c0
  have q1 := BX.out.c1
  have q2 := BX.out.c2
  have q3 := BX.out.c3
  have q4 := BX.out.c4
  have q5 := BX.out.c5
  have q6 := BX.out.c6
  have q7 := BX.out.c7
  have q8 := BX.out.c8
  have q9 := BX.out.c9
  have q10 := BX.out.c10
  have q11 := BX.out.c11
  have q12 := BX.out.c12
  clear B2
  clear J2
  go_wp2_with fail
  refine (h11_do H JA.out hmm I6.out IN.out EC.out ECE.out).mono ?_
  rintro e w7 ⟨⟨A5, m5, c5, rfl, hj5⟩, hb⟩
  have HBq := Lib.hid (HB.out.trans (hb.mono HB.out.size))
  clear HB
  have HB := HBq
  clear HBq
  have BXq := Lib.hid (BX.out.next hb)
  clear BX
  have BX := BXq
  clear BXq
  have JAq := Lib.hid (JA.out.next hb)
  clear JA
  have JA := JAq
  clear JAq
  clear hb
  have J5 := Lib.hid hj5
  clear hj5
  clear q0 q1 q2 q3 q4 q5 q6 q7 q8 q9 q10 q11 q12
  have hb := Below.alloc (Below.refl w7.heap.size w7) (Nat.le_refl _) (.cells #[.int .i64 j.id, .int .i64 j.spec.nodes, .int .i64 j.spec.cores, .int .i64 j.spec.gpus, .string j.spec.tag, .bool j.spec.whole, .int .i64 j.spec.long, .int .i64 j.spec.prio, .slice A5 m5 c5, .int .i64 5, .int .i64 j.came, .int .i64 j.frm, .int .i64 now] 26)
  have B5q := Lib.hid (boxJ_new w7 ⟨j.id, j.spec, j.needs, 5, j.came, j.frm, now⟩ A5 m5 c5)
  have HBq := Lib.hid (HB.out.trans (hb.mono HB.out.size))
  clear HB
  have HB := HBq
  clear HBq
  have BXq := Lib.hid (BX.out.next hb)
  clear BX
  have BX := BXq
  clear BXq
  have JAq := Lib.hid (JA.out.next hb)
  clear JA
  have JA := JAq
  clear JAq
  have J5q := Lib.hid (J5.out.next hb)
  clear J5
  have J5 := J5q
  clear J5q
  clear hb
  have B5 := B5q
  clear B5q
  have q0 := BX.out.c0
  have q1 := BX.out.c1
  have q2 := BX.out.c2
  have q3 := BX.out.c3
  have q4 := BX.out.c4
  have q5 := BX.out.c5
  have q6 := BX.out.c6
  have q7 := BX.out.c7
  have q8 := BX.out.c8
  have q9 := BX.out.c9
  have q10 := BX.out.c10
  have q11 := BX.out.c11
  have q12 := BX.out.c12
  have r0 := B5.out.c0
  have r1 := B5.out.c1
  have r2 := B5.out.c2
  have r3 := B5.out.c3
  have r4 := B5.out.c4
  have r5 := B5.out.c5
  have r6 := B5.out.c6
  have r7 := B5.out.c7
  have r8 := B5.out.c8
  have r9 := B5.out.c9
  have r10 := B5.out.c10
  have r11 := B5.out.c11
  have r12 := B5.out.c12
  simp only at r9 r11 r12
  go_wp2_with fail
  refine (h11_right H JA.out hmm RT.out).mono ?_
  rintro e w8 ⟨rfl, hb⟩
  have HBq := Lib.hid (HB.out.trans (hb.mono HB.out.size))
  clear HB
  have HB := HBq
  clear HBq
  have BXq := Lib.hid (BX.out.next hb)
  clear BX
  have BX := BXq
  clear BXq
  have JAq := Lib.hid (JA.out.next hb)
  clear JA
  have JA := JAq
  clear JAq
  have J5q := Lib.hid (J5.out.next hb)
  clear J5
  have J5 := J5q
  clear J5q
  have B5q := Lib.hid (B5.out.next hb)
  clear B5
  have B5 := B5q
  clear B5q
  clear hb
  clear q0 q1 q2 q3 q4 q5 q6 q7 q8 q9 q10 q11 q12 r0 r1 r2 r3 r4 r5 r6 r7 r8 r9 r10 r11 r12
  have q0 := BX.out.c0
  have q1 := BX.out.c1
  have q2 := BX.out.c2
  have q3 := BX.out.c3
  have q4 := BX.out.c4
  have q5 := BX.out.c5
  have q6 := BX.out.c6
  have q7 := BX.out.c7
  have q8 := BX.out.c8
  have q9 := BX.out.c9
  have q10 := BX.out.c10
  have q11 := BX.out.c11
  have q12 := BX.out.c12
  have r0 := B5.out.c0
  have r1 := B5.out.c1
  have r2 := B5.out.c2
  have r3 := B5.out.c3
  have r4 := B5.out.c4
  have r5 := B5.out.c5
  have r6 := B5.out.c6
  have r7 := B5.out.c7
  have r8 := B5.out.c8
  have r9 := B5.out.c9
  have r10 := B5.out.c10
  have r11 := B5.out.c11
  have r12 := B5.out.c12
  simp only at r9 r11 r12
  go_wp2_with fail
  refine (h11_over H IST.out OV.out).mono ?_
  rintro e w9 ⟨rfl, hb⟩
  have HBq := Lib.hid (HB.out.trans (hb.mono HB.out.size))
  clear HB
  have HB := HBq
  clear HBq
  have BXq := Lib.hid (BX.out.next hb)
  clear BX
  have BX := BXq
  clear BXq
  have JAq := Lib.hid (JA.out.next hb)
  clear JA
  have JA := JAq
  clear JAq
  have J5q := Lib.hid (J5.out.next hb)
  clear J5
  have J5 := J5q
  clear J5q
  have B5q := Lib.hid (B5.out.next hb)
  clear B5
  have B5 := B5q
  clear B5q
  clear hb
  clear q0 q1 q2 q3 q4 q5 q6 q7 q8 q9 q10 q11 q12 r0 r1 r2 r3 r4 r5 r6 r7 r8 r9 r10 r11 r12
  have q0 := BX.out.c0
  have q1 := BX.out.c1
  have q2 := BX.out.c2
  have q3 := BX.out.c3
  have q4 := BX.out.c4
  have q5 := BX.out.c5
  have q6 := BX.out.c6
  have q7 := BX.out.c7
  have q8 := BX.out.c8
  have q9 := BX.out.c9
  have q10 := BX.out.c10
  have q11 := BX.out.c11
  have q12 := BX.out.c12
  have r0 := B5.out.c0
  have r1 := B5.out.c1
  have r2 := B5.out.c2
  have r3 := B5.out.c3
  have r4 := B5.out.c4
  have r5 := B5.out.c5
  have r6 := B5.out.c6
  have r7 := B5.out.c7
  have r8 := B5.out.c8
  have r9 := B5.out.c9
  have r10 := B5.out.c10
  have r11 := B5.out.c11
  have r12 := B5.out.c12
  simp only at r9 r11 r12
  go_wp2
  go_ret
  exact ⟨rfl, HB.out⟩

set_option maxRecDepth 100000 in
set_option maxHeartbeats 8000000 in
theorem jobFree_o2n (H : JobOk) (A : Option Addr) (m c : Nat) (j : Jb) (now a b : Int) (w : World) (hj : JAsk w A m c j) (hn : I64 now) (ha : I64 a) (hb : I64 b) (h40 : ¬ 40 < m) (k1 : 6 < a) (g1 : doE j 1 now ≠ 0) (g2 : rightJ j = false) :
    Calls Try.prog 5 #[.agg #[.int .i64 j.id, .int .i64 j.spec.nodes, .int .i64 j.spec.cores, .int .i64 j.spec.gpus, .string j.spec.tag, .bool j.spec.whole, .int .i64 j.spec.long, .int .i64 j.spec.prio, .slice A m c, .int .i64 j.state, .int .i64 j.came, .int .i64 j.frm, .int .i64 j.to], .int .i64 now, .int .i64 a, .int .i64 b] w fun e w' => e = .returned (.bool true) ∧ Below w.heap.size w w' := by
  obtain ⟨W, hW⟩ : ∃ W, W = w.alloc (jO j A m c) := ⟨_, rfl⟩
  have BX : Hid (BoxJ W w.heap.size j A m c) := Lib.hid (by rw [hW]; exact boxJ_new w j A m c)
  have hb0 : Below w.heap.size w W := by rw [hW]; exact (Below.refl _ _).alloc (Nat.le_refl _) _
  have HB := Lib.hid hb0
  have JA := Lib.hid (hj.next hb0)
  unfold jO at hW
  have h40d : decide ((40 : Int) < (m : Int)) = false := by simp; omega
  have hmm : m ≤ 100 := by omega
  have HML := Lib.hid hj.reads.1
  have IN := Lib.hid hn
  have IA := Lib.hid ha
  have IB := Lib.hid hb
  have IST := Lib.hid hj.int.2.1
  have I1 : Hid (I64 1) := Lib.hid (by unfold I64; omega)
  have I2 : Hid (I64 2) := Lib.hid (by unfold I64; omega)
  have I6 : Hid (I64 6) := Lib.hid (by unfold I64; omega)
  have hx0 : nameJ a = ⟨#[]⟩ := name_out (by omega)
  have NA := Lib.hid hx0
  obtain ⟨y, hy⟩ : ∃ y, nameJ b = y := ⟨_, rfl⟩
  have NB := Lib.hid hy
  clear hx0 hy
  have d1 : decide (a < 0) = false := decide_eq_false (by omega)
  have d2 : decide (6 < a) = true := decide_eq_true k1
  clear k1
  obtain ⟨k, hk⟩ : ∃ k, doJ j 1 now = k := ⟨_, rfl⟩
  obtain ⟨eh, heh⟩ : ∃ e, doE j 1 now = e := ⟨_, rfl⟩
  rw [heh] at g1
  have dh : (eh == 0) = false := by rw [beq_eq_false_iff_ne]; exact g1
  have EH := Lib.hid hk
  have EHE := Lib.hid heh
  clear hk heh g1
  obtain ⟨hc1, hc2⟩ := bad_do (what := 6) (now := now) fun h => of_decide_eq_false g2 h.1
  have ECE := Lib.hid hc1
  have EC := Lib.hid hc2
  have RT := Lib.hid g2
  clear hc1 hc2 g2
  clear hb0 hj hn ha hb h40
  go_enter Try.func5, Try.ntmps5
  go_wp2_with fail
  rw [← hW]
  refine (awake11_any H _).mono ?_
  rintro e w1 ⟨rfl, hb⟩
  have HBq := Lib.hid (HB.out.trans (hb.mono HB.out.size))
  clear HB
  have HB := HBq
  clear HBq
  have BXq := Lib.hid (BX.out.next hb)
  clear BX
  have BX := BXq
  clear BXq
  have JAq := Lib.hid (JA.out.next hb)
  clear JA
  have JA := JAq
  clear JAq
  clear hb
  clear hW
  have q0 := BX.out.c0
  have q1 := BX.out.c1
  have q2 := BX.out.c2
  have q3 := BX.out.c3
  have q4 := BX.out.c4
  have q5 := BX.out.c5
  have q6 := BX.out.c6
  have q7 := BX.out.c7
  have q8 := BX.out.c8
  have q9 := BX.out.c9
  have q10 := BX.out.c10
  have q11 := BX.out.c11
  have q12 := BX.out.c12
  go_wp2_with fail
  refine (h11_name H IA.out NA.out).mono ?_
  rintro e w2 ⟨rfl, hb⟩
  have HBq := Lib.hid (HB.out.trans (hb.mono HB.out.size))
  clear HB
  have HB := HBq
  clear HBq
  have BXq := Lib.hid (BX.out.next hb)
  clear BX
  have BX := BXq
  clear BXq
  have JAq := Lib.hid (JA.out.next hb)
  clear JA
  have JA := JAq
  clear JAq
  clear hb
  clear q0 q1 q2 q3 q4 q5 q6 q7 q8 q9 q10 q11 q12
  go_wp2_with fail
  refine (h11_name H IB.out NB.out).mono ?_
  rintro e w3 ⟨rfl, hb⟩
  have HBq := Lib.hid (HB.out.trans (hb.mono HB.out.size))
  clear HB
  have HB := HBq
  clear HBq
  have BXq := Lib.hid (BX.out.next hb)
  clear BX
  have BX := BXq
  clear BXq
  have JAq := Lib.hid (JA.out.next hb)
  clear JA
  have JA := JAq
  clear JAq
  clear hb
  have q0 := BX.out.c0
  have q1 := BX.out.c1
  have q2 := BX.out.c2
  have q3 := BX.out.c3
  have q4 := BX.out.c4
  have q5 := BX.out.c5
  have q6 := BX.out.c6
  have q7 := BX.out.c7
  have q8 := BX.out.c8
  have q9 := BX.out.c9
  have q10 := BX.out.c10
  have q11 := BX.out.c11
  have q12 := BX.out.c12
  go_wp2_with fail
  refine (h11_do H JA.out hmm I1.out IN.out EH.out EHE.out).mono ?_
  rintro e w4 ⟨⟨A1, m1, c1, rfl, hj1⟩, hb⟩
  have HBq := Lib.hid (HB.out.trans (hb.mono HB.out.size))
  clear HB
  have HB := HBq
  clear HBq
  have BXq := Lib.hid (BX.out.next hb)
  clear BX
  have BX := BXq
  clear BXq
  have JAq := Lib.hid (JA.out.next hb)
  clear JA
  have JA := JAq
  clear JAq
  clear hb
  have J1 := Lib.hid hj1
  clear hj1
  clear q0 q1 q2 q3 q4 q5 q6 q7 q8 q9 q10 q11 q12
  have hb := Below.alloc (Below.refl w4.heap.size w4) (Nat.le_refl _) (.cells #[.int .i64 k.id, .int .i64 k.spec.nodes, .int .i64 k.spec.cores, .int .i64 k.spec.gpus, .string k.spec.tag, .bool k.spec.whole, .int .i64 k.spec.long, .int .i64 k.spec.prio, .slice A1 m1 c1, .int .i64 k.state, .int .i64 k.came, .int .i64 k.frm, .int .i64 k.to] 26)
  have B1q := Lib.hid (boxJ_new w4 k A1 m1 c1)
  have HBq := Lib.hid (HB.out.trans (hb.mono HB.out.size))
  clear HB
  have HB := HBq
  clear HBq
  have BXq := Lib.hid (BX.out.next hb)
  clear BX
  have BX := BXq
  clear BXq
  have JAq := Lib.hid (JA.out.next hb)
  clear JA
  have JA := JAq
  clear JAq
  have J1q := Lib.hid (J1.out.next hb)
  clear J1
  have J1 := J1q
  clear J1q
  clear hb
  have B1 := B1q
  clear B1q
  have q0 := BX.out.c0
  have q1 := BX.out.c1
  have q2 := BX.out.c2
  have q3 := BX.out.c3
  have q4 := BX.out.c4
  have q5 := BX.out.c5
  have q6 := BX.out.c6
  have q7 := BX.out.c7
  have q8 := BX.out.c8
  have q9 := BX.out.c9
  have q10 := BX.out.c10
  have q11 := BX.out.c11
  have q12 := BX.out.c12
  go_wp2_with fail
  refine (h11_do H JA.out hmm I6.out IN.out EC.out ECE.out).mono ?_
  rintro e w5 ⟨⟨A5, m5, c5, rfl, hj5⟩, hb⟩
  have HBq := Lib.hid (HB.out.trans (hb.mono HB.out.size))
  clear HB
  have HB := HBq
  clear HBq
  have BXq := Lib.hid (BX.out.next hb)
  clear BX
  have BX := BXq
  clear BXq
  have JAq := Lib.hid (JA.out.next hb)
  clear JA
  have JA := JAq
  clear JAq
  have J1q := Lib.hid (J1.out.next hb)
  clear J1
  have J1 := J1q
  clear J1q
  have B1q := Lib.hid (B1.out.next hb)
  clear B1
  have B1 := B1q
  clear B1q
  clear hb
  have J5 := Lib.hid hj5
  clear hj5
  clear q0 q1 q2 q3 q4 q5 q6 q7 q8 q9 q10 q11 q12
  have hb := Below.alloc (Below.refl w5.heap.size w5) (Nat.le_refl _) (.cells #[.int .i64 j.id, .int .i64 j.spec.nodes, .int .i64 j.spec.cores, .int .i64 j.spec.gpus, .string j.spec.tag, .bool j.spec.whole, .int .i64 j.spec.long, .int .i64 j.spec.prio, .slice A5 m5 c5, .int .i64 j.state, .int .i64 j.came, .int .i64 j.frm, .int .i64 j.to] 26)
  have B5q := Lib.hid (boxJ_new w5 j A5 m5 c5)
  have HBq := Lib.hid (HB.out.trans (hb.mono HB.out.size))
  clear HB
  have HB := HBq
  clear HBq
  have BXq := Lib.hid (BX.out.next hb)
  clear BX
  have BX := BXq
  clear BXq
  have JAq := Lib.hid (JA.out.next hb)
  clear JA
  have JA := JAq
  clear JAq
  have J1q := Lib.hid (J1.out.next hb)
  clear J1
  have J1 := J1q
  clear J1q
  have B1q := Lib.hid (B1.out.next hb)
  clear B1
  have B1 := B1q
  clear B1q
  have J5q := Lib.hid (J5.out.next hb)
  clear J5
  have J5 := J5q
  clear J5q
  clear hb
  have B5 := B5q
  clear B5q
  have q0 := BX.out.c0
  have q1 := BX.out.c1
  have q2 := BX.out.c2
  have q3 := BX.out.c3
  have q4 := BX.out.c4
  have q5 := BX.out.c5
  have q6 := BX.out.c6
  have q7 := BX.out.c7
  have q8 := BX.out.c8
  have q9 := BX.out.c9
  have q10 := BX.out.c10
  have q11 := BX.out.c11
  have q12 := BX.out.c12
  have r0 := B5.out.c0
  have r1 := B5.out.c1
  have r2 := B5.out.c2
  have r3 := B5.out.c3
  have r4 := B5.out.c4
  have r5 := B5.out.c5
  have r6 := B5.out.c6
  have r7 := B5.out.c7
  have r8 := B5.out.c8
  have r9 := B5.out.c9
  have r10 := B5.out.c10
  have r11 := B5.out.c11
  have r12 := B5.out.c12
  go_wp2_with fail
  refine (h11_right H JA.out hmm RT.out).mono ?_
  rintro e w6 ⟨rfl, hb⟩
  have HBq := Lib.hid (HB.out.trans (hb.mono HB.out.size))
  clear HB
  have HB := HBq
  clear HBq
  have BXq := Lib.hid (BX.out.next hb)
  clear BX
  have BX := BXq
  clear BXq
  have JAq := Lib.hid (JA.out.next hb)
  clear JA
  have JA := JAq
  clear JAq
  have J1q := Lib.hid (J1.out.next hb)
  clear J1
  have J1 := J1q
  clear J1q
  have B1q := Lib.hid (B1.out.next hb)
  clear B1
  have B1 := B1q
  clear B1q
  have J5q := Lib.hid (J5.out.next hb)
  clear J5
  have J5 := J5q
  clear J5q
  have B5q := Lib.hid (B5.out.next hb)
  clear B5
  have B5 := B5q
  clear B5q
  clear hb
  clear q0 q1 q2 q3 q4 q5 q6 q7 q8 q9 q10 q11 q12 r0 r1 r2 r3 r4 r5 r6 r7 r8 r9 r10 r11 r12
  have q0 := BX.out.c0
  have q1 := BX.out.c1
  have q2 := BX.out.c2
  have q3 := BX.out.c3
  have q4 := BX.out.c4
  have q5 := BX.out.c5
  have q6 := BX.out.c6
  have q7 := BX.out.c7
  have q8 := BX.out.c8
  have q9 := BX.out.c9
  have q10 := BX.out.c10
  have q11 := BX.out.c11
  have q12 := BX.out.c12
  have r0 := B5.out.c0
  have r1 := B5.out.c1
  have r2 := B5.out.c2
  have r3 := B5.out.c3
  have r4 := B5.out.c4
  have r5 := B5.out.c5
  have r6 := B5.out.c6
  have r7 := B5.out.c7
  have r8 := B5.out.c8
  have r9 := B5.out.c9
  have r10 := B5.out.c10
  have r11 := B5.out.c11
  have r12 := B5.out.c12
  go_wp2_with fail
  refine (refSameJ_b J5.out JA.out (sameJ_iff.2 rfl)).mono ?_
  rintro e w7 ⟨rfl, hb⟩
  have HBq := Lib.hid (HB.out.trans (hb.mono HB.out.size))
  clear HB
  have HB := HBq
  clear HBq
  have BXq := Lib.hid (BX.out.next hb)
  clear BX
  have BX := BXq
  clear BXq
  have JAq := Lib.hid (JA.out.next hb)
  clear JA
  have JA := JAq
  clear JAq
  have J1q := Lib.hid (J1.out.next hb)
  clear J1
  have J1 := J1q
  clear J1q
  have B1q := Lib.hid (B1.out.next hb)
  clear B1
  have B1 := B1q
  clear B1q
  have J5q := Lib.hid (J5.out.next hb)
  clear J5
  have J5 := J5q
  clear J5q
  have B5q := Lib.hid (B5.out.next hb)
  clear B5
  have B5 := B5q
  clear B5q
  clear hb
  go_wp2
  go_ret
  exact ⟨rfl, HB.out⟩

set_option maxRecDepth 100000 in
set_option maxHeartbeats 8000000 in
theorem jobFree_o2a (H : JobOk) (A : Option Addr) (m c : Nat) (j : Jb) (now a b : Int) (w : World) (hj : JAsk w A m c j) (hn : I64 now) (ha : I64 a) (hb : I64 b) (h40 : ¬ 40 < m) (k1 : 6 < a) (g1 : doE j 1 now ≠ 0) (g2 : rightJ j = true) (g3 : doE j 6 now = 1) :
    Calls Try.prog 5 #[.agg #[.int .i64 j.id, .int .i64 j.spec.nodes, .int .i64 j.spec.cores, .int .i64 j.spec.gpus, .string j.spec.tag, .bool j.spec.whole, .int .i64 j.spec.long, .int .i64 j.spec.prio, .slice A m c, .int .i64 j.state, .int .i64 j.came, .int .i64 j.frm, .int .i64 j.to], .int .i64 now, .int .i64 a, .int .i64 b] w fun e w' => e = .returned (.bool true) ∧ Below w.heap.size w w' := by
  obtain ⟨W, hW⟩ : ∃ W, W = w.alloc (jO j A m c) := ⟨_, rfl⟩
  have BX : Hid (BoxJ W w.heap.size j A m c) := Lib.hid (by rw [hW]; exact boxJ_new w j A m c)
  have hb0 : Below w.heap.size w W := by rw [hW]; exact (Below.refl _ _).alloc (Nat.le_refl _) _
  have HB := Lib.hid hb0
  have JA := Lib.hid (hj.next hb0)
  unfold jO at hW
  have h40d : decide ((40 : Int) < (m : Int)) = false := by simp; omega
  have hmm : m ≤ 100 := by omega
  have HML := Lib.hid hj.reads.1
  have IN := Lib.hid hn
  have IA := Lib.hid ha
  have IB := Lib.hid hb
  have IST := Lib.hid hj.int.2.1
  have I1 : Hid (I64 1) := Lib.hid (by unfold I64; omega)
  have I2 : Hid (I64 2) := Lib.hid (by unfold I64; omega)
  have I6 : Hid (I64 6) := Lib.hid (by unfold I64; omega)
  have hx0 : nameJ a = ⟨#[]⟩ := name_out (by omega)
  have NA := Lib.hid hx0
  obtain ⟨y, hy⟩ : ∃ y, nameJ b = y := ⟨_, rfl⟩
  have NB := Lib.hid hy
  clear hx0 hy
  have d1 : decide (a < 0) = false := decide_eq_false (by omega)
  have d2 : decide (6 < a) = true := decide_eq_true k1
  clear k1
  obtain ⟨k, hk⟩ : ∃ k, doJ j 1 now = k := ⟨_, rfl⟩
  obtain ⟨eh, heh⟩ : ∃ e, doE j 1 now = e := ⟨_, rfl⟩
  rw [heh] at g1
  have dh : (eh == 0) = false := by rw [beq_eq_false_iff_ne]; exact g1
  have EH := Lib.hid hk
  have EHE := Lib.hid heh
  clear hk heh g1
  have hc2 : doJ j 6 now = j := doJ_no (by rw [g3]; decide)
  have ECE := Lib.hid g3
  have EC := Lib.hid hc2
  have RT := Lib.hid g2
  clear hc2 g2 g3
  clear hb0 hj hn ha hb h40
  go_enter Try.func5, Try.ntmps5
  go_wp2_with fail
  rw [← hW]
  refine (awake11_any H _).mono ?_
  rintro e w1 ⟨rfl, hb⟩
  have HBq := Lib.hid (HB.out.trans (hb.mono HB.out.size))
  clear HB
  have HB := HBq
  clear HBq
  have BXq := Lib.hid (BX.out.next hb)
  clear BX
  have BX := BXq
  clear BXq
  have JAq := Lib.hid (JA.out.next hb)
  clear JA
  have JA := JAq
  clear JAq
  clear hb
  clear hW
  have q0 := BX.out.c0
  have q1 := BX.out.c1
  have q2 := BX.out.c2
  have q3 := BX.out.c3
  have q4 := BX.out.c4
  have q5 := BX.out.c5
  have q6 := BX.out.c6
  have q7 := BX.out.c7
  have q8 := BX.out.c8
  have q9 := BX.out.c9
  have q10 := BX.out.c10
  have q11 := BX.out.c11
  have q12 := BX.out.c12
  go_wp2_with fail
  refine (h11_name H IA.out NA.out).mono ?_
  rintro e w2 ⟨rfl, hb⟩
  have HBq := Lib.hid (HB.out.trans (hb.mono HB.out.size))
  clear HB
  have HB := HBq
  clear HBq
  have BXq := Lib.hid (BX.out.next hb)
  clear BX
  have BX := BXq
  clear BXq
  have JAq := Lib.hid (JA.out.next hb)
  clear JA
  have JA := JAq
  clear JAq
  clear hb
  clear q0 q1 q2 q3 q4 q5 q6 q7 q8 q9 q10 q11 q12
  go_wp2_with fail
  refine (h11_name H IB.out NB.out).mono ?_
  rintro e w3 ⟨rfl, hb⟩
  have HBq := Lib.hid (HB.out.trans (hb.mono HB.out.size))
  clear HB
  have HB := HBq
  clear HBq
  have BXq := Lib.hid (BX.out.next hb)
  clear BX
  have BX := BXq
  clear BXq
  have JAq := Lib.hid (JA.out.next hb)
  clear JA
  have JA := JAq
  clear JAq
  clear hb
  have q0 := BX.out.c0
  have q1 := BX.out.c1
  have q2 := BX.out.c2
  have q3 := BX.out.c3
  have q4 := BX.out.c4
  have q5 := BX.out.c5
  have q6 := BX.out.c6
  have q7 := BX.out.c7
  have q8 := BX.out.c8
  have q9 := BX.out.c9
  have q10 := BX.out.c10
  have q11 := BX.out.c11
  have q12 := BX.out.c12
  go_wp2_with fail
  refine (h11_do H JA.out hmm I1.out IN.out EH.out EHE.out).mono ?_
  rintro e w4 ⟨⟨A1, m1, c1, rfl, hj1⟩, hb⟩
  have HBq := Lib.hid (HB.out.trans (hb.mono HB.out.size))
  clear HB
  have HB := HBq
  clear HBq
  have BXq := Lib.hid (BX.out.next hb)
  clear BX
  have BX := BXq
  clear BXq
  have JAq := Lib.hid (JA.out.next hb)
  clear JA
  have JA := JAq
  clear JAq
  clear hb
  have J1 := Lib.hid hj1
  clear hj1
  clear q0 q1 q2 q3 q4 q5 q6 q7 q8 q9 q10 q11 q12
  have hb := Below.alloc (Below.refl w4.heap.size w4) (Nat.le_refl _) (.cells #[.int .i64 k.id, .int .i64 k.spec.nodes, .int .i64 k.spec.cores, .int .i64 k.spec.gpus, .string k.spec.tag, .bool k.spec.whole, .int .i64 k.spec.long, .int .i64 k.spec.prio, .slice A1 m1 c1, .int .i64 k.state, .int .i64 k.came, .int .i64 k.frm, .int .i64 k.to] 26)
  have B1q := Lib.hid (boxJ_new w4 k A1 m1 c1)
  have HBq := Lib.hid (HB.out.trans (hb.mono HB.out.size))
  clear HB
  have HB := HBq
  clear HBq
  have BXq := Lib.hid (BX.out.next hb)
  clear BX
  have BX := BXq
  clear BXq
  have JAq := Lib.hid (JA.out.next hb)
  clear JA
  have JA := JAq
  clear JAq
  have J1q := Lib.hid (J1.out.next hb)
  clear J1
  have J1 := J1q
  clear J1q
  clear hb
  have B1 := B1q
  clear B1q
  have q0 := BX.out.c0
  have q1 := BX.out.c1
  have q2 := BX.out.c2
  have q3 := BX.out.c3
  have q4 := BX.out.c4
  have q5 := BX.out.c5
  have q6 := BX.out.c6
  have q7 := BX.out.c7
  have q8 := BX.out.c8
  have q9 := BX.out.c9
  have q10 := BX.out.c10
  have q11 := BX.out.c11
  have q12 := BX.out.c12
  go_wp2_with fail
  refine (h11_do H JA.out hmm I6.out IN.out EC.out ECE.out).mono ?_
  rintro e w5 ⟨⟨A5, m5, c5, rfl, hj5⟩, hb⟩
  have HBq := Lib.hid (HB.out.trans (hb.mono HB.out.size))
  clear HB
  have HB := HBq
  clear HBq
  have BXq := Lib.hid (BX.out.next hb)
  clear BX
  have BX := BXq
  clear BXq
  have JAq := Lib.hid (JA.out.next hb)
  clear JA
  have JA := JAq
  clear JAq
  have J1q := Lib.hid (J1.out.next hb)
  clear J1
  have J1 := J1q
  clear J1q
  have B1q := Lib.hid (B1.out.next hb)
  clear B1
  have B1 := B1q
  clear B1q
  clear hb
  have J5 := Lib.hid hj5
  clear hj5
  clear q0 q1 q2 q3 q4 q5 q6 q7 q8 q9 q10 q11 q12
  have hb := Below.alloc (Below.refl w5.heap.size w5) (Nat.le_refl _) (.cells #[.int .i64 j.id, .int .i64 j.spec.nodes, .int .i64 j.spec.cores, .int .i64 j.spec.gpus, .string j.spec.tag, .bool j.spec.whole, .int .i64 j.spec.long, .int .i64 j.spec.prio, .slice A5 m5 c5, .int .i64 j.state, .int .i64 j.came, .int .i64 j.frm, .int .i64 j.to] 26)
  have B5q := Lib.hid (boxJ_new w5 j A5 m5 c5)
  have HBq := Lib.hid (HB.out.trans (hb.mono HB.out.size))
  clear HB
  have HB := HBq
  clear HBq
  have BXq := Lib.hid (BX.out.next hb)
  clear BX
  have BX := BXq
  clear BXq
  have JAq := Lib.hid (JA.out.next hb)
  clear JA
  have JA := JAq
  clear JAq
  have J1q := Lib.hid (J1.out.next hb)
  clear J1
  have J1 := J1q
  clear J1q
  have B1q := Lib.hid (B1.out.next hb)
  clear B1
  have B1 := B1q
  clear B1q
  have J5q := Lib.hid (J5.out.next hb)
  clear J5
  have J5 := J5q
  clear J5q
  clear hb
  have B5 := B5q
  clear B5q
  have q0 := BX.out.c0
  have q1 := BX.out.c1
  have q2 := BX.out.c2
  have q3 := BX.out.c3
  have q4 := BX.out.c4
  have q5 := BX.out.c5
  have q6 := BX.out.c6
  have q7 := BX.out.c7
  have q8 := BX.out.c8
  have q9 := BX.out.c9
  have q10 := BX.out.c10
  have q11 := BX.out.c11
  have q12 := BX.out.c12
  have r0 := B5.out.c0
  have r1 := B5.out.c1
  have r2 := B5.out.c2
  have r3 := B5.out.c3
  have r4 := B5.out.c4
  have r5 := B5.out.c5
  have r6 := B5.out.c6
  have r7 := B5.out.c7
  have r8 := B5.out.c8
  have r9 := B5.out.c9
  have r10 := B5.out.c10
  have r11 := B5.out.c11
  have r12 := B5.out.c12
  go_wp2_with fail
  refine (h11_right H JA.out hmm RT.out).mono ?_
  rintro e w6 ⟨rfl, hb⟩
  have HBq := Lib.hid (HB.out.trans (hb.mono HB.out.size))
  clear HB
  have HB := HBq
  clear HBq
  have BXq := Lib.hid (BX.out.next hb)
  clear BX
  have BX := BXq
  clear BXq
  have JAq := Lib.hid (JA.out.next hb)
  clear JA
  have JA := JAq
  clear JAq
  have J1q := Lib.hid (J1.out.next hb)
  clear J1
  have J1 := J1q
  clear J1q
  have B1q := Lib.hid (B1.out.next hb)
  clear B1
  have B1 := B1q
  clear B1q
  have J5q := Lib.hid (J5.out.next hb)
  clear J5
  have J5 := J5q
  clear J5q
  have B5q := Lib.hid (B5.out.next hb)
  clear B5
  have B5 := B5q
  clear B5q
  clear hb
  clear q0 q1 q2 q3 q4 q5 q6 q7 q8 q9 q10 q11 q12 r0 r1 r2 r3 r4 r5 r6 r7 r8 r9 r10 r11 r12
  have q0 := BX.out.c0
  have q1 := BX.out.c1
  have q2 := BX.out.c2
  have q3 := BX.out.c3
  have q4 := BX.out.c4
  have q5 := BX.out.c5
  have q6 := BX.out.c6
  have q7 := BX.out.c7
  have q8 := BX.out.c8
  have q9 := BX.out.c9
  have q10 := BX.out.c10
  have q11 := BX.out.c11
  have q12 := BX.out.c12
  have r0 := B5.out.c0
  have r1 := B5.out.c1
  have r2 := B5.out.c2
  have r3 := B5.out.c3
  have r4 := B5.out.c4
  have r5 := B5.out.c5
  have r6 := B5.out.c6
  have r7 := B5.out.c7
  have r8 := B5.out.c8
  have r9 := B5.out.c9
  have r10 := B5.out.c10
  have r11 := B5.out.c11
  have r12 := B5.out.c12
  go_wp2_with fail
  refine (refSameJ_b J5.out JA.out (sameJ_iff.2 rfl)).mono ?_
  rintro e w7 ⟨rfl, hb⟩
  have HBq := Lib.hid (HB.out.trans (hb.mono HB.out.size))
  clear HB
  have HB := HBq
  clear HBq
  have BXq := Lib.hid (BX.out.next hb)
  clear BX
  have BX := BXq
  clear BXq
  have JAq := Lib.hid (JA.out.next hb)
  clear JA
  have JA := JAq
  clear JAq
  have J1q := Lib.hid (J1.out.next hb)
  clear J1
  have J1 := J1q
  clear J1q
  have B1q := Lib.hid (B1.out.next hb)
  clear B1
  have B1 := B1q
  clear B1q
  have J5q := Lib.hid (J5.out.next hb)
  clear J5
  have J5 := J5q
  clear J5q
  have B5q := Lib.hid (B5.out.next hb)
  clear B5
  have B5 := B5q
  clear B5q
  clear hb
  go_wp2
  go_ret
  exact ⟨rfl, HB.out⟩

set_option maxRecDepth 100000 in
set_option maxHeartbeats 8000000 in
theorem jobFree_o2e (H : JobOk) (A : Option Addr) (m c : Nat) (j : Jb) (now a b : Int) (w : World) (hj : JAsk w A m c j) (hn : I64 now) (ha : I64 a) (hb : I64 b) (h40 : ¬ 40 < m) (k1 : 6 < a) (g1 : doE j 1 now ≠ 0) (g2 : rightJ j = true) (g3 : doE j 6 now = 8) :
    Calls Try.prog 5 #[.agg #[.int .i64 j.id, .int .i64 j.spec.nodes, .int .i64 j.spec.cores, .int .i64 j.spec.gpus, .string j.spec.tag, .bool j.spec.whole, .int .i64 j.spec.long, .int .i64 j.spec.prio, .slice A m c, .int .i64 j.state, .int .i64 j.came, .int .i64 j.frm, .int .i64 j.to], .int .i64 now, .int .i64 a, .int .i64 b] w fun e w' => e = .returned (.bool true) ∧ Below w.heap.size w w' := by
  obtain ⟨W, hW⟩ : ∃ W, W = w.alloc (jO j A m c) := ⟨_, rfl⟩
  have BX : Hid (BoxJ W w.heap.size j A m c) := Lib.hid (by rw [hW]; exact boxJ_new w j A m c)
  have hb0 : Below w.heap.size w W := by rw [hW]; exact (Below.refl _ _).alloc (Nat.le_refl _) _
  have HB := Lib.hid hb0
  have JA := Lib.hid (hj.next hb0)
  unfold jO at hW
  have h40d : decide ((40 : Int) < (m : Int)) = false := by simp; omega
  have hmm : m ≤ 100 := by omega
  have HML := Lib.hid hj.reads.1
  have IN := Lib.hid hn
  have IA := Lib.hid ha
  have IB := Lib.hid hb
  have IST := Lib.hid hj.int.2.1
  have I1 : Hid (I64 1) := Lib.hid (by unfold I64; omega)
  have I2 : Hid (I64 2) := Lib.hid (by unfold I64; omega)
  have I6 : Hid (I64 6) := Lib.hid (by unfold I64; omega)
  have hx0 : nameJ a = ⟨#[]⟩ := name_out (by omega)
  have NA := Lib.hid hx0
  obtain ⟨y, hy⟩ : ∃ y, nameJ b = y := ⟨_, rfl⟩
  have NB := Lib.hid hy
  clear hx0 hy
  have d1 : decide (a < 0) = false := decide_eq_false (by omega)
  have d2 : decide (6 < a) = true := decide_eq_true k1
  clear k1
  obtain ⟨k, hk⟩ : ∃ k, doJ j 1 now = k := ⟨_, rfl⟩
  obtain ⟨eh, heh⟩ : ∃ e, doE j 1 now = e := ⟨_, rfl⟩
  rw [heh] at g1
  have dh : (eh == 0) = false := by rw [beq_eq_false_iff_ne]; exact g1
  have EH := Lib.hid hk
  have EHE := Lib.hid heh
  clear hk heh g1
  have hov := cancel_eight g3
  obtain ⟨kc, hkc⟩ : ∃ k, doJ j 6 now = k := ⟨_, rfl⟩
  have ECE := Lib.hid g3
  have EC := Lib.hid hkc
  have OV := Lib.hid hov
  have RT := Lib.hid g2
  clear hov hkc g2 g3
  clear hb0 hj hn ha hb h40
  go_enter Try.func5, Try.ntmps5
  go_wp2_with fail
  rw [← hW]
  refine (awake11_any H _).mono ?_
  rintro e w1 ⟨rfl, hb⟩
  have HBq := Lib.hid (HB.out.trans (hb.mono HB.out.size))
  clear HB
  have HB := HBq
  clear HBq
  have BXq := Lib.hid (BX.out.next hb)
  clear BX
  have BX := BXq
  clear BXq
  have JAq := Lib.hid (JA.out.next hb)
  clear JA
  have JA := JAq
  clear JAq
  clear hb
  clear hW
  have q0 := BX.out.c0
  have q1 := BX.out.c1
  have q2 := BX.out.c2
  have q3 := BX.out.c3
  have q4 := BX.out.c4
  have q5 := BX.out.c5
  have q6 := BX.out.c6
  have q7 := BX.out.c7
  have q8 := BX.out.c8
  have q9 := BX.out.c9
  have q10 := BX.out.c10
  have q11 := BX.out.c11
  have q12 := BX.out.c12
  go_wp2_with fail
  refine (h11_name H IA.out NA.out).mono ?_
  rintro e w2 ⟨rfl, hb⟩
  have HBq := Lib.hid (HB.out.trans (hb.mono HB.out.size))
  clear HB
  have HB := HBq
  clear HBq
  have BXq := Lib.hid (BX.out.next hb)
  clear BX
  have BX := BXq
  clear BXq
  have JAq := Lib.hid (JA.out.next hb)
  clear JA
  have JA := JAq
  clear JAq
  clear hb
  clear q0 q1 q2 q3 q4 q5 q6 q7 q8 q9 q10 q11 q12
  go_wp2_with fail
  refine (h11_name H IB.out NB.out).mono ?_
  rintro e w3 ⟨rfl, hb⟩
  have HBq := Lib.hid (HB.out.trans (hb.mono HB.out.size))
  clear HB
  have HB := HBq
  clear HBq
  have BXq := Lib.hid (BX.out.next hb)
  clear BX
  have BX := BXq
  clear BXq
  have JAq := Lib.hid (JA.out.next hb)
  clear JA
  have JA := JAq
  clear JAq
  clear hb
  have q0 := BX.out.c0
  have q1 := BX.out.c1
  have q2 := BX.out.c2
  have q3 := BX.out.c3
  have q4 := BX.out.c4
  have q5 := BX.out.c5
  have q6 := BX.out.c6
  have q7 := BX.out.c7
  have q8 := BX.out.c8
  have q9 := BX.out.c9
  have q10 := BX.out.c10
  have q11 := BX.out.c11
  have q12 := BX.out.c12
  go_wp2_with fail
  refine (h11_do H JA.out hmm I1.out IN.out EH.out EHE.out).mono ?_
  rintro e w4 ⟨⟨A1, m1, c1, rfl, hj1⟩, hb⟩
  have HBq := Lib.hid (HB.out.trans (hb.mono HB.out.size))
  clear HB
  have HB := HBq
  clear HBq
  have BXq := Lib.hid (BX.out.next hb)
  clear BX
  have BX := BXq
  clear BXq
  have JAq := Lib.hid (JA.out.next hb)
  clear JA
  have JA := JAq
  clear JAq
  clear hb
  have J1 := Lib.hid hj1
  clear hj1
  clear q0 q1 q2 q3 q4 q5 q6 q7 q8 q9 q10 q11 q12
  have hb := Below.alloc (Below.refl w4.heap.size w4) (Nat.le_refl _) (.cells #[.int .i64 k.id, .int .i64 k.spec.nodes, .int .i64 k.spec.cores, .int .i64 k.spec.gpus, .string k.spec.tag, .bool k.spec.whole, .int .i64 k.spec.long, .int .i64 k.spec.prio, .slice A1 m1 c1, .int .i64 k.state, .int .i64 k.came, .int .i64 k.frm, .int .i64 k.to] 26)
  have B1q := Lib.hid (boxJ_new w4 k A1 m1 c1)
  have HBq := Lib.hid (HB.out.trans (hb.mono HB.out.size))
  clear HB
  have HB := HBq
  clear HBq
  have BXq := Lib.hid (BX.out.next hb)
  clear BX
  have BX := BXq
  clear BXq
  have JAq := Lib.hid (JA.out.next hb)
  clear JA
  have JA := JAq
  clear JAq
  have J1q := Lib.hid (J1.out.next hb)
  clear J1
  have J1 := J1q
  clear J1q
  clear hb
  have B1 := B1q
  clear B1q
  have q0 := BX.out.c0
  have q1 := BX.out.c1
  have q2 := BX.out.c2
  have q3 := BX.out.c3
  have q4 := BX.out.c4
  have q5 := BX.out.c5
  have q6 := BX.out.c6
  have q7 := BX.out.c7
  have q8 := BX.out.c8
  have q9 := BX.out.c9
  have q10 := BX.out.c10
  have q11 := BX.out.c11
  have q12 := BX.out.c12
  go_wp2_with fail
  refine (h11_do H JA.out hmm I6.out IN.out EC.out ECE.out).mono ?_
  rintro e w5 ⟨⟨A5, m5, c5, rfl, hj5⟩, hb⟩
  have HBq := Lib.hid (HB.out.trans (hb.mono HB.out.size))
  clear HB
  have HB := HBq
  clear HBq
  have BXq := Lib.hid (BX.out.next hb)
  clear BX
  have BX := BXq
  clear BXq
  have JAq := Lib.hid (JA.out.next hb)
  clear JA
  have JA := JAq
  clear JAq
  have J1q := Lib.hid (J1.out.next hb)
  clear J1
  have J1 := J1q
  clear J1q
  have B1q := Lib.hid (B1.out.next hb)
  clear B1
  have B1 := B1q
  clear B1q
  clear hb
  have J5 := Lib.hid hj5
  clear hj5
  clear q0 q1 q2 q3 q4 q5 q6 q7 q8 q9 q10 q11 q12
  have hb := Below.alloc (Below.refl w5.heap.size w5) (Nat.le_refl _) (.cells #[.int .i64 kc.id, .int .i64 kc.spec.nodes, .int .i64 kc.spec.cores, .int .i64 kc.spec.gpus, .string kc.spec.tag, .bool kc.spec.whole, .int .i64 kc.spec.long, .int .i64 kc.spec.prio, .slice A5 m5 c5, .int .i64 kc.state, .int .i64 kc.came, .int .i64 kc.frm, .int .i64 kc.to] 26)
  have B5q := Lib.hid (boxJ_new w5 kc A5 m5 c5)
  have HBq := Lib.hid (HB.out.trans (hb.mono HB.out.size))
  clear HB
  have HB := HBq
  clear HBq
  have BXq := Lib.hid (BX.out.next hb)
  clear BX
  have BX := BXq
  clear BXq
  have JAq := Lib.hid (JA.out.next hb)
  clear JA
  have JA := JAq
  clear JAq
  have J1q := Lib.hid (J1.out.next hb)
  clear J1
  have J1 := J1q
  clear J1q
  have B1q := Lib.hid (B1.out.next hb)
  clear B1
  have B1 := B1q
  clear B1q
  have J5q := Lib.hid (J5.out.next hb)
  clear J5
  have J5 := J5q
  clear J5q
  clear hb
  have B5 := B5q
  clear B5q
  have q0 := BX.out.c0
  have q1 := BX.out.c1
  have q2 := BX.out.c2
  have q3 := BX.out.c3
  have q4 := BX.out.c4
  have q5 := BX.out.c5
  have q6 := BX.out.c6
  have q7 := BX.out.c7
  have q8 := BX.out.c8
  have q9 := BX.out.c9
  have q10 := BX.out.c10
  have q11 := BX.out.c11
  have q12 := BX.out.c12
  have r0 := B5.out.c0
  have r1 := B5.out.c1
  have r2 := B5.out.c2
  have r3 := B5.out.c3
  have r4 := B5.out.c4
  have r5 := B5.out.c5
  have r6 := B5.out.c6
  have r7 := B5.out.c7
  have r8 := B5.out.c8
  have r9 := B5.out.c9
  have r10 := B5.out.c10
  have r11 := B5.out.c11
  have r12 := B5.out.c12
  go_wp2_with fail
  refine (h11_right H JA.out hmm RT.out).mono ?_
  rintro e w6 ⟨rfl, hb⟩
  have HBq := Lib.hid (HB.out.trans (hb.mono HB.out.size))
  clear HB
  have HB := HBq
  clear HBq
  have BXq := Lib.hid (BX.out.next hb)
  clear BX
  have BX := BXq
  clear BXq
  have JAq := Lib.hid (JA.out.next hb)
  clear JA
  have JA := JAq
  clear JAq
  have J1q := Lib.hid (J1.out.next hb)
  clear J1
  have J1 := J1q
  clear J1q
  have B1q := Lib.hid (B1.out.next hb)
  clear B1
  have B1 := B1q
  clear B1q
  have J5q := Lib.hid (J5.out.next hb)
  clear J5
  have J5 := J5q
  clear J5q
  have B5q := Lib.hid (B5.out.next hb)
  clear B5
  have B5 := B5q
  clear B5q
  clear hb
  clear q0 q1 q2 q3 q4 q5 q6 q7 q8 q9 q10 q11 q12 r0 r1 r2 r3 r4 r5 r6 r7 r8 r9 r10 r11 r12
  have q0 := BX.out.c0
  have q1 := BX.out.c1
  have q2 := BX.out.c2
  have q3 := BX.out.c3
  have q4 := BX.out.c4
  have q5 := BX.out.c5
  have q6 := BX.out.c6
  have q7 := BX.out.c7
  have q8 := BX.out.c8
  have q9 := BX.out.c9
  have q10 := BX.out.c10
  have q11 := BX.out.c11
  have q12 := BX.out.c12
  have r0 := B5.out.c0
  have r1 := B5.out.c1
  have r2 := B5.out.c2
  have r3 := B5.out.c3
  have r4 := B5.out.c4
  have r5 := B5.out.c5
  have r6 := B5.out.c6
  have r7 := B5.out.c7
  have r8 := B5.out.c8
  have r9 := B5.out.c9
  have r10 := B5.out.c10
  have r11 := B5.out.c11
  have r12 := B5.out.c12
  go_wp2_with fail
  refine (h11_over H IST.out OV.out).mono ?_
  rintro e w7 ⟨rfl, hb⟩
  have HBq := Lib.hid (HB.out.trans (hb.mono HB.out.size))
  clear HB
  have HB := HBq
  clear HBq
  have BXq := Lib.hid (BX.out.next hb)
  clear BX
  have BX := BXq
  clear BXq
  have JAq := Lib.hid (JA.out.next hb)
  clear JA
  have JA := JAq
  clear JAq
  have J1q := Lib.hid (J1.out.next hb)
  clear J1
  have J1 := J1q
  clear J1q
  have B1q := Lib.hid (B1.out.next hb)
  clear B1
  have B1 := B1q
  clear B1q
  have J5q := Lib.hid (J5.out.next hb)
  clear J5
  have J5 := J5q
  clear J5q
  have B5q := Lib.hid (B5.out.next hb)
  clear B5
  have B5 := B5q
  clear B5q
  clear hb
  clear q0 q1 q2 q3 q4 q5 q6 q7 q8 q9 q10 q11 q12 r0 r1 r2 r3 r4 r5 r6 r7 r8 r9 r10 r11 r12
  have q0 := BX.out.c0
  have q1 := BX.out.c1
  have q2 := BX.out.c2
  have q3 := BX.out.c3
  have q4 := BX.out.c4
  have q5 := BX.out.c5
  have q6 := BX.out.c6
  have q7 := BX.out.c7
  have q8 := BX.out.c8
  have q9 := BX.out.c9
  have q10 := BX.out.c10
  have q11 := BX.out.c11
  have q12 := BX.out.c12
  have r0 := B5.out.c0
  have r1 := B5.out.c1
  have r2 := B5.out.c2
  have r3 := B5.out.c3
  have r4 := B5.out.c4
  have r5 := B5.out.c5
  have r6 := B5.out.c6
  have r7 := B5.out.c7
  have r8 := B5.out.c8
  have r9 := B5.out.c9
  have r10 := B5.out.c10
  have r11 := B5.out.c11
  have r12 := B5.out.c12
  go_wp2
  go_ret
  exact ⟨rfl, HB.out⟩

set_option maxRecDepth 100000 in
set_option maxHeartbeats 8000000 in
theorem jobFree_o2c (H : JobOk) (A : Option Addr) (m c : Nat) (j : Jb) (now a b : Int) (w : World) (hj : JAsk w A m c j) (hn : I64 now) (ha : I64 a) (hb : I64 b) (h40 : ¬ 40 < m) (k1 : 6 < a) (g1 : doE j 1 now ≠ 0) (g2 : rightJ j = true) (g3 : doE j 6 now = 0) :
    Calls Try.prog 5 #[.agg #[.int .i64 j.id, .int .i64 j.spec.nodes, .int .i64 j.spec.cores, .int .i64 j.spec.gpus, .string j.spec.tag, .bool j.spec.whole, .int .i64 j.spec.long, .int .i64 j.spec.prio, .slice A m c, .int .i64 j.state, .int .i64 j.came, .int .i64 j.frm, .int .i64 j.to], .int .i64 now, .int .i64 a, .int .i64 b] w fun e w' => e = .returned (.bool true) ∧ Below w.heap.size w w' := by
  obtain ⟨W, hW⟩ : ∃ W, W = w.alloc (jO j A m c) := ⟨_, rfl⟩
  have BX : Hid (BoxJ W w.heap.size j A m c) := Lib.hid (by rw [hW]; exact boxJ_new w j A m c)
  have hb0 : Below w.heap.size w W := by rw [hW]; exact (Below.refl _ _).alloc (Nat.le_refl _) _
  have HB := Lib.hid hb0
  have JA := Lib.hid (hj.next hb0)
  unfold jO at hW
  have h40d : decide ((40 : Int) < (m : Int)) = false := by simp; omega
  have hmm : m ≤ 100 := by omega
  have HML := Lib.hid hj.reads.1
  have IN := Lib.hid hn
  have IA := Lib.hid ha
  have IB := Lib.hid hb
  have IST := Lib.hid hj.int.2.1
  have I1 : Hid (I64 1) := Lib.hid (by unfold I64; omega)
  have I2 : Hid (I64 2) := Lib.hid (by unfold I64; omega)
  have I6 : Hid (I64 6) := Lib.hid (by unfold I64; omega)
  have hx0 : nameJ a = ⟨#[]⟩ := name_out (by omega)
  have NA := Lib.hid hx0
  obtain ⟨y, hy⟩ : ∃ y, nameJ b = y := ⟨_, rfl⟩
  have NB := Lib.hid hy
  clear hx0 hy
  have d1 : decide (a < 0) = false := decide_eq_false (by omega)
  have d2 : decide (6 < a) = true := decide_eq_true k1
  clear k1
  obtain ⟨k, hk⟩ : ∃ k, doJ j 1 now = k := ⟨_, rfl⟩
  obtain ⟨eh, heh⟩ : ∃ e, doE j 1 now = e := ⟨_, rfl⟩
  rw [heh] at g1
  have dh : (eh == 0) = false := by rw [beq_eq_false_iff_ne]; exact g1
  have EH := Lib.hid hk
  have EHE := Lib.hid heh
  clear hk heh g1
  obtain ⟨hov, hcd⟩ := cancel_does g3
  have ECE := Lib.hid g3
  have EC := Lib.hid hcd
  have OV := Lib.hid hov
  have RT := Lib.hid g2
  clear hov hcd g2 g3
  clear hb0 hj hn ha hb h40
  go_enter Try.func5, Try.ntmps5
  go_wp2_with fail
  rw [← hW]
  refine (awake11_any H _).mono ?_
  rintro e w1 ⟨rfl, hb⟩
  have HBq := Lib.hid (HB.out.trans (hb.mono HB.out.size))
  clear HB
  have HB := HBq
  clear HBq
  have BXq := Lib.hid (BX.out.next hb)
  clear BX
  have BX := BXq
  clear BXq
  have JAq := Lib.hid (JA.out.next hb)
  clear JA
  have JA := JAq
  clear JAq
  clear hb
  clear hW
  have q0 := BX.out.c0
  have q1 := BX.out.c1
  have q2 := BX.out.c2
  have q3 := BX.out.c3
  have q4 := BX.out.c4
  have q5 := BX.out.c5
  have q6 := BX.out.c6
  have q7 := BX.out.c7
  have q8 := BX.out.c8
  have q9 := BX.out.c9
  have q10 := BX.out.c10
  have q11 := BX.out.c11
  have q12 := BX.out.c12
  go_wp2_with fail
  refine (h11_name H IA.out NA.out).mono ?_
  rintro e w2 ⟨rfl, hb⟩
  have HBq := Lib.hid (HB.out.trans (hb.mono HB.out.size))
  clear HB
  have HB := HBq
  clear HBq
  have BXq := Lib.hid (BX.out.next hb)
  clear BX
  have BX := BXq
  clear BXq
  have JAq := Lib.hid (JA.out.next hb)
  clear JA
  have JA := JAq
  clear JAq
  clear hb
  clear q0 q1 q2 q3 q4 q5 q6 q7 q8 q9 q10 q11 q12
  go_wp2_with fail
  refine (h11_name H IB.out NB.out).mono ?_
  rintro e w3 ⟨rfl, hb⟩
  have HBq := Lib.hid (HB.out.trans (hb.mono HB.out.size))
  clear HB
  have HB := HBq
  clear HBq
  have BXq := Lib.hid (BX.out.next hb)
  clear BX
  have BX := BXq
  clear BXq
  have JAq := Lib.hid (JA.out.next hb)
  clear JA
  have JA := JAq
  clear JAq
  clear hb
  have q0 := BX.out.c0
  have q1 := BX.out.c1
  have q2 := BX.out.c2
  have q3 := BX.out.c3
  have q4 := BX.out.c4
  have q5 := BX.out.c5
  have q6 := BX.out.c6
  have q7 := BX.out.c7
  have q8 := BX.out.c8
  have q9 := BX.out.c9
  have q10 := BX.out.c10
  have q11 := BX.out.c11
  have q12 := BX.out.c12
  go_wp2_with fail
  refine (h11_do H JA.out hmm I1.out IN.out EH.out EHE.out).mono ?_
  rintro e w4 ⟨⟨A1, m1, c1, rfl, hj1⟩, hb⟩
  have HBq := Lib.hid (HB.out.trans (hb.mono HB.out.size))
  clear HB
  have HB := HBq
  clear HBq
  have BXq := Lib.hid (BX.out.next hb)
  clear BX
  have BX := BXq
  clear BXq
  have JAq := Lib.hid (JA.out.next hb)
  clear JA
  have JA := JAq
  clear JAq
  clear hb
  have J1 := Lib.hid hj1
  clear hj1
  clear q0 q1 q2 q3 q4 q5 q6 q7 q8 q9 q10 q11 q12
  have hb := Below.alloc (Below.refl w4.heap.size w4) (Nat.le_refl _) (.cells #[.int .i64 k.id, .int .i64 k.spec.nodes, .int .i64 k.spec.cores, .int .i64 k.spec.gpus, .string k.spec.tag, .bool k.spec.whole, .int .i64 k.spec.long, .int .i64 k.spec.prio, .slice A1 m1 c1, .int .i64 k.state, .int .i64 k.came, .int .i64 k.frm, .int .i64 k.to] 26)
  have B1q := Lib.hid (boxJ_new w4 k A1 m1 c1)
  have HBq := Lib.hid (HB.out.trans (hb.mono HB.out.size))
  clear HB
  have HB := HBq
  clear HBq
  have BXq := Lib.hid (BX.out.next hb)
  clear BX
  have BX := BXq
  clear BXq
  have JAq := Lib.hid (JA.out.next hb)
  clear JA
  have JA := JAq
  clear JAq
  have J1q := Lib.hid (J1.out.next hb)
  clear J1
  have J1 := J1q
  clear J1q
  clear hb
  have B1 := B1q
  clear B1q
  have q0 := BX.out.c0
  have q1 := BX.out.c1
  have q2 := BX.out.c2
  have q3 := BX.out.c3
  have q4 := BX.out.c4
  have q5 := BX.out.c5
  have q6 := BX.out.c6
  have q7 := BX.out.c7
  have q8 := BX.out.c8
  have q9 := BX.out.c9
  have q10 := BX.out.c10
  have q11 := BX.out.c11
  have q12 := BX.out.c12
  go_wp2_with fail
  refine (h11_do H JA.out hmm I6.out IN.out EC.out ECE.out).mono ?_
  rintro e w5 ⟨⟨A5, m5, c5, rfl, hj5⟩, hb⟩
  have HBq := Lib.hid (HB.out.trans (hb.mono HB.out.size))
  clear HB
  have HB := HBq
  clear HBq
  have BXq := Lib.hid (BX.out.next hb)
  clear BX
  have BX := BXq
  clear BXq
  have JAq := Lib.hid (JA.out.next hb)
  clear JA
  have JA := JAq
  clear JAq
  have J1q := Lib.hid (J1.out.next hb)
  clear J1
  have J1 := J1q
  clear J1q
  have B1q := Lib.hid (B1.out.next hb)
  clear B1
  have B1 := B1q
  clear B1q
  clear hb
  have J5 := Lib.hid hj5
  clear hj5
  clear q0 q1 q2 q3 q4 q5 q6 q7 q8 q9 q10 q11 q12
  have hb := Below.alloc (Below.refl w5.heap.size w5) (Nat.le_refl _) (.cells #[.int .i64 j.id, .int .i64 j.spec.nodes, .int .i64 j.spec.cores, .int .i64 j.spec.gpus, .string j.spec.tag, .bool j.spec.whole, .int .i64 j.spec.long, .int .i64 j.spec.prio, .slice A5 m5 c5, .int .i64 5, .int .i64 j.came, .int .i64 j.frm, .int .i64 now] 26)
  have B5q := Lib.hid (boxJ_new w5 ⟨j.id, j.spec, j.needs, 5, j.came, j.frm, now⟩ A5 m5 c5)
  have HBq := Lib.hid (HB.out.trans (hb.mono HB.out.size))
  clear HB
  have HB := HBq
  clear HBq
  have BXq := Lib.hid (BX.out.next hb)
  clear BX
  have BX := BXq
  clear BXq
  have JAq := Lib.hid (JA.out.next hb)
  clear JA
  have JA := JAq
  clear JAq
  have J1q := Lib.hid (J1.out.next hb)
  clear J1
  have J1 := J1q
  clear J1q
  have B1q := Lib.hid (B1.out.next hb)
  clear B1
  have B1 := B1q
  clear B1q
  have J5q := Lib.hid (J5.out.next hb)
  clear J5
  have J5 := J5q
  clear J5q
  clear hb
  have B5 := B5q
  clear B5q
  have q0 := BX.out.c0
  have q1 := BX.out.c1
  have q2 := BX.out.c2
  have q3 := BX.out.c3
  have q4 := BX.out.c4
  have q5 := BX.out.c5
  have q6 := BX.out.c6
  have q7 := BX.out.c7
  have q8 := BX.out.c8
  have q9 := BX.out.c9
  have q10 := BX.out.c10
  have q11 := BX.out.c11
  have q12 := BX.out.c12
  have r0 := B5.out.c0
  have r1 := B5.out.c1
  have r2 := B5.out.c2
  have r3 := B5.out.c3
  have r4 := B5.out.c4
  have r5 := B5.out.c5
  have r6 := B5.out.c6
  have r7 := B5.out.c7
  have r8 := B5.out.c8
  have r9 := B5.out.c9
  have r10 := B5.out.c10
  have r11 := B5.out.c11
  have r12 := B5.out.c12
  simp only at r9 r11 r12
  go_wp2_with fail
  refine (h11_right H JA.out hmm RT.out).mono ?_
  rintro e w6 ⟨rfl, hb⟩
  have HBq := Lib.hid (HB.out.trans (hb.mono HB.out.size))
  clear HB
  have HB := HBq
  clear HBq
  have BXq := Lib.hid (BX.out.next hb)
  clear BX
  have BX := BXq
  clear BXq
  have JAq := Lib.hid (JA.out.next hb)
  clear JA
  have JA := JAq
  clear JAq
  have J1q := Lib.hid (J1.out.next hb)
  clear J1
  have J1 := J1q
  clear J1q
  have B1q := Lib.hid (B1.out.next hb)
  clear B1
  have B1 := B1q
  clear B1q
  have J5q := Lib.hid (J5.out.next hb)
  clear J5
  have J5 := J5q
  clear J5q
  have B5q := Lib.hid (B5.out.next hb)
  clear B5
  have B5 := B5q
  clear B5q
  clear hb
  clear q0 q1 q2 q3 q4 q5 q6 q7 q8 q9 q10 q11 q12 r0 r1 r2 r3 r4 r5 r6 r7 r8 r9 r10 r11 r12
  have q0 := BX.out.c0
  have q1 := BX.out.c1
  have q2 := BX.out.c2
  have q3 := BX.out.c3
  have q4 := BX.out.c4
  have q5 := BX.out.c5
  have q6 := BX.out.c6
  have q7 := BX.out.c7
  have q8 := BX.out.c8
  have q9 := BX.out.c9
  have q10 := BX.out.c10
  have q11 := BX.out.c11
  have q12 := BX.out.c12
  have r0 := B5.out.c0
  have r1 := B5.out.c1
  have r2 := B5.out.c2
  have r3 := B5.out.c3
  have r4 := B5.out.c4
  have r5 := B5.out.c5
  have r6 := B5.out.c6
  have r7 := B5.out.c7
  have r8 := B5.out.c8
  have r9 := B5.out.c9
  have r10 := B5.out.c10
  have r11 := B5.out.c11
  have r12 := B5.out.c12
  simp only at r9 r11 r12
  go_wp2_with fail
  refine (h11_over H IST.out OV.out).mono ?_
  rintro e w7 ⟨rfl, hb⟩
  have HBq := Lib.hid (HB.out.trans (hb.mono HB.out.size))
  clear HB
  have HB := HBq
  clear HBq
  have BXq := Lib.hid (BX.out.next hb)
  clear BX
  have BX := BXq
  clear BXq
  have JAq := Lib.hid (JA.out.next hb)
  clear JA
  have JA := JAq
  clear JAq
  have J1q := Lib.hid (J1.out.next hb)
  clear J1
  have J1 := J1q
  clear J1q
  have B1q := Lib.hid (B1.out.next hb)
  clear B1
  have B1 := B1q
  clear B1q
  have J5q := Lib.hid (J5.out.next hb)
  clear J5
  have J5 := J5q
  clear J5q
  have B5q := Lib.hid (B5.out.next hb)
  clear B5
  have B5 := B5q
  clear B5q
  clear hb
  clear q0 q1 q2 q3 q4 q5 q6 q7 q8 q9 q10 q11 q12 r0 r1 r2 r3 r4 r5 r6 r7 r8 r9 r10 r11 r12
  have q0 := BX.out.c0
  have q1 := BX.out.c1
  have q2 := BX.out.c2
  have q3 := BX.out.c3
  have q4 := BX.out.c4
  have q5 := BX.out.c5
  have q6 := BX.out.c6
  have q7 := BX.out.c7
  have q8 := BX.out.c8
  have q9 := BX.out.c9
  have q10 := BX.out.c10
  have q11 := BX.out.c11
  have q12 := BX.out.c12
  have r0 := B5.out.c0
  have r1 := B5.out.c1
  have r2 := B5.out.c2
  have r3 := B5.out.c3
  have r4 := B5.out.c4
  have r5 := B5.out.c5
  have r6 := B5.out.c6
  have r7 := B5.out.c7
  have r8 := B5.out.c8
  have r9 := B5.out.c9
  have r10 := B5.out.c10
  have r11 := B5.out.c11
  have r12 := B5.out.c12
  simp only at r9 r11 r12
  go_wp2
  go_ret
  exact ⟨rfl, HB.out⟩

set_option maxRecDepth 100000 in
set_option maxHeartbeats 8000000 in
theorem jobFree_i1h (H : JobOk) (A : Option Addr) (m c : Nat) (j : Jb) (now a b : Int) (w : World) (hj : JAsk w A m c j) (hn : I64 now) (ha : I64 a) (hb : I64 b) (h40 : ¬ 40 < m) (k1 : 0 ≤ a) (k2 : a ≤ 6) (k3 : a = b) (g1 : doE j 1 now = 0) :
    Calls Try.prog 5 #[.agg #[.int .i64 j.id, .int .i64 j.spec.nodes, .int .i64 j.spec.cores, .int .i64 j.spec.gpus, .string j.spec.tag, .bool j.spec.whole, .int .i64 j.spec.long, .int .i64 j.spec.prio, .slice A m c, .int .i64 j.state, .int .i64 j.came, .int .i64 j.frm, .int .i64 j.to], .int .i64 now, .int .i64 a, .int .i64 b] w fun e w' => e = .returned (.bool true) ∧ Below w.heap.size w w' := by
  obtain ⟨W, hW⟩ : ∃ W, W = w.alloc (jO j A m c) := ⟨_, rfl⟩
  have BX : Hid (BoxJ W w.heap.size j A m c) := Lib.hid (by rw [hW]; exact boxJ_new w j A m c)
  have hb0 : Below w.heap.size w W := by rw [hW]; exact (Below.refl _ _).alloc (Nat.le_refl _) _
  have HB := Lib.hid hb0
  have JA := Lib.hid (hj.next hb0)
  unfold jO at hW
  have h40d : decide ((40 : Int) < (m : Int)) = false := by simp; omega
  have hmm : m ≤ 100 := by omega
  have HML := Lib.hid hj.reads.1
  have IN := Lib.hid hn
  have IA := Lib.hid ha
  have IB := Lib.hid hb
  have IST := Lib.hid hj.int.2.1
  have I1 : Hid (I64 1) := Lib.hid (by unfold I64; omega)
  have I2 : Hid (I64 2) := Lib.hid (by unfold I64; omega)
  have I6 : Hid (I64 6) := Lib.hid (by unfold I64; omega)
  have d1 : decide (a < 0) = false := decide_eq_false (by omega)
  have d2 : decide (6 < a) = false := decide_eq_false (by omega)
  have hsz := name_in k1 k2
  have hab : nameJ b = nameJ a := by rw [k3]
  obtain ⟨x, hx⟩ : ∃ x, nameJ a = x := ⟨_, rfl⟩
  rw [hx] at hsz hab
  obtain ⟨s1, s2, s3, s4⟩ := str_some hsz
  have NA := Lib.hid hx
  have NB := Lib.hid hab
  have d3 : (a != b) = false := by simpa using k3
  clear k1 k2 k3 hx hab hsz
  obtain ⟨hf1, hf2⟩ := hold_free g1
  have hcz := hold_cancel g1
  obtain ⟨hov, hcd⟩ := cancel_does hcz
  have hrt : rightJ j = true := decide_eq_true (do_ok.1 g1).1.1
  obtain ⟨k, hk⟩ : ∃ k, doJ j 1 now = k := ⟨_, rfl⟩
  rw [hk] at hf1 hf2
  have EH := Lib.hid hk
  have EHE := Lib.hid g1
  have EF := Lib.hid hf2
  have EFE := Lib.hid hf1
  have EC := Lib.hid hcd
  have ECE := Lib.hid hcz
  have OV := Lib.hid hov
  have RT := Lib.hid hrt
  clear hf1 hf2 hcz hov hcd hrt hk g1
  clear hb0 hj hn ha hb h40
  go_enter Try.func5, Try.ntmps5
  go_wp2_with fail
  rw [← hW]
  refine (awake11_any H _).mono ?_
  rintro e w1 ⟨rfl, hb⟩
  have HBq := Lib.hid (HB.out.trans (hb.mono HB.out.size))
  clear HB
  have HB := HBq
  clear HBq
  have BXq := Lib.hid (BX.out.next hb)
  clear BX
  have BX := BXq
  clear BXq
  have JAq := Lib.hid (JA.out.next hb)
  clear JA
  have JA := JAq
  clear JAq
  clear hb
  clear hW
  have q0 := BX.out.c0
  have q1 := BX.out.c1
  have q2 := BX.out.c2
  have q3 := BX.out.c3
  have q4 := BX.out.c4
  have q5 := BX.out.c5
  have q6 := BX.out.c6
  have q7 := BX.out.c7
  have q8 := BX.out.c8
  have q9 := BX.out.c9
  have q10 := BX.out.c10
  have q11 := BX.out.c11
  have q12 := BX.out.c12
  go_wp2_with fail
  refine (h11_name H IA.out NA.out).mono ?_
  rintro e w2 ⟨rfl, hb⟩
  have HBq := Lib.hid (HB.out.trans (hb.mono HB.out.size))
  clear HB
  have HB := HBq
  clear HBq
  have BXq := Lib.hid (BX.out.next hb)
  clear BX
  have BX := BXq
  clear BXq
  have JAq := Lib.hid (JA.out.next hb)
  clear JA
  have JA := JAq
  clear JAq
  clear hb
  clear q0 q1 q2 q3 q4 q5 q6 q7 q8 q9 q10 q11 q12
  go_wp2_with fail
  refine (h11_name H IB.out NB.out).mono ?_
  rintro e w3 ⟨rfl, hb⟩
  have HBq := Lib.hid (HB.out.trans (hb.mono HB.out.size))
  clear HB
  have HB := HBq
  clear HBq
  have BXq := Lib.hid (BX.out.next hb)
  clear BX
  have BX := BXq
  clear BXq
  have JAq := Lib.hid (JA.out.next hb)
  clear JA
  have JA := JAq
  clear JAq
  clear hb
  have q0 := BX.out.c0
  have q1 := BX.out.c1
  have q2 := BX.out.c2
  have q3 := BX.out.c3
  have q4 := BX.out.c4
  have q5 := BX.out.c5
  have q6 := BX.out.c6
  have q7 := BX.out.c7
  have q8 := BX.out.c8
  have q9 := BX.out.c9
  have q10 := BX.out.c10
  have q11 := BX.out.c11
  have q12 := BX.out.c12
  go_wp2_with fail
  refine (h11_do H JA.out hmm I1.out IN.out EH.out EHE.out).mono ?_
  rintro e w4 ⟨⟨A1, m1, c1, rfl, hj1⟩, hb⟩
  have HBq := Lib.hid (HB.out.trans (hb.mono HB.out.size))
  clear HB
  have HB := HBq
  clear HBq
  have BXq := Lib.hid (BX.out.next hb)
  clear BX
  have BX := BXq
  clear BXq
  have JAq := Lib.hid (JA.out.next hb)
  clear JA
  have JA := JAq
  clear JAq
  clear hb
  have J1 := Lib.hid hj1
  clear hj1
  clear q0 q1 q2 q3 q4 q5 q6 q7 q8 q9 q10 q11 q12
  have hb := Below.alloc (Below.refl w4.heap.size w4) (Nat.le_refl _) (.cells #[.int .i64 k.id, .int .i64 k.spec.nodes, .int .i64 k.spec.cores, .int .i64 k.spec.gpus, .string k.spec.tag, .bool k.spec.whole, .int .i64 k.spec.long, .int .i64 k.spec.prio, .slice A1 m1 c1, .int .i64 k.state, .int .i64 k.came, .int .i64 k.frm, .int .i64 k.to] 26)
  have B1q := Lib.hid (boxJ_new w4 k A1 m1 c1)
  have HBq := Lib.hid (HB.out.trans (hb.mono HB.out.size))
  clear HB
  have HB := HBq
  clear HBq
  have BXq := Lib.hid (BX.out.next hb)
  clear BX
  have BX := BXq
  clear BXq
  have JAq := Lib.hid (JA.out.next hb)
  clear JA
  have JA := JAq
  clear JAq
  have J1q := Lib.hid (J1.out.next hb)
  clear J1
  have J1 := J1q
  clear J1q
  clear hb
  have B1 := B1q
  clear B1q
  have q0 := BX.out.c0
  have q1 := BX.out.c1
  have q2 := BX.out.c2
  have q3 := BX.out.c3
  have q4 := BX.out.c4
  have q5 := BX.out.c5
  have q6 := BX.out.c6
  have q7 := BX.out.c7
  have q8 := BX.out.c8
  have q9 := BX.out.c9
  have q10 := BX.out.c10
  have q11 := BX.out.c11
  have q12 := BX.out.c12
  have hk100 : m1 ≤ 100 := by
    have h1 := J1.out.reads.1
    rw [← h1, ← EH.out, doJ_ok EHE.out]
    show j.needs.length ≤ 100
    rw [HML.out]; exact hmm
  have r0 := B1.out.c0
  have r1 := B1.out.c1
  have r2 := B1.out.c2
  have r3 := B1.out.c3
  have r4 := B1.out.c4
  have r5 := B1.out.c5
  have r6 := B1.out.c6
  have r7 := B1.out.c7
  have r8 := B1.out.c8
  have r9 := B1.out.c9
  have r10 := B1.out.c10
  have r11 := B1.out.c11
  have r12 := B1.out.c12
  go_wp2_with fail
  refine (h11_do H J1.out hk100 I2.out IN.out EF.out EFE.out).mono ?_
  rintro e w5 ⟨⟨A2, m2, c2, rfl, hj2⟩, hb⟩
  have HBq := Lib.hid (HB.out.trans (hb.mono HB.out.size))
  clear HB
  have HB := HBq
  clear HBq
  have BXq := Lib.hid (BX.out.next hb)
  clear BX
  have BX := BXq
  clear BXq
  have JAq := Lib.hid (JA.out.next hb)
  clear JA
  have JA := JAq
  clear JAq
  have J1q := Lib.hid (J1.out.next hb)
  clear J1
  have J1 := J1q
  clear J1q
  have B1q := Lib.hid (B1.out.next hb)
  clear B1
  have B1 := B1q
  clear B1q
  clear hb
  have J2 := Lib.hid hj2
  clear hj2
  clear q0 q1 q2 q3 q4 q5 q6 q7 q8 q9 q10 q11 q12 r0 r1 r2 r3 r4 r5 r6 r7 r8 r9 r10 r11 r12
  clear B1
  clear J1
  have hb := Below.alloc (Below.refl w5.heap.size w5) (Nat.le_refl _) (.cells #[.int .i64 j.id, .int .i64 j.spec.nodes, .int .i64 j.spec.cores, .int .i64 j.spec.gpus, .string j.spec.tag, .bool j.spec.whole, .int .i64 j.spec.long, .int .i64 j.spec.prio, .slice A2 m2 c2, .int .i64 j.state, .int .i64 j.came, .int .i64 j.frm, .int .i64 j.to] 26)
  have B2q := Lib.hid (boxJ_new w5 j A2 m2 c2)
  have HBq := Lib.hid (HB.out.trans (hb.mono HB.out.size))
  clear HB
  have HB := HBq
  clear HBq
  have BXq := Lib.hid (BX.out.next hb)
  clear BX
  have BX := BXq
  clear BXq
  have JAq := Lib.hid (JA.out.next hb)
  clear JA
  have JA := JAq
  clear JAq
  have J2q := Lib.hid (J2.out.next hb)
  clear J2
  have J2 := J2q
  clear J2q
  clear hb
  have B2 := B2q
  clear B2q
  have q0 := BX.out.c0
  have q1 := BX.out.c1
  have q2 := BX.out.c2
  have q3 := BX.out.c3
  have q4 := BX.out.c4
  have q5 := BX.out.c5
  have q6 := BX.out.c6
  have q7 := BX.out.c7
  have q8 := BX.out.c8
  have q9 := BX.out.c9
  have q10 := BX.out.c10
  have q11 := BX.out.c11
  have q12 := BX.out.c12
  have r0 := B2.out.c0
  have r1 := B2.out.c1
  have r2 := B2.out.c2
  have r3 := B2.out.c3
  have r4 := B2.out.c4
  have r5 := B2.out.c5
  have r6 := B2.out.c6
  have r7 := B2.out.c7
  have r8 := B2.out.c8
  have r9 := B2.out.c9
  have r10 := B2.out.c10
  have r11 := B2.out.c11
  have r12 := B2.out.c12
  go_wp2_with fail
  refine (refSameJ_b J2.out JA.out (sameJ_iff.2 rfl)).mono ?_
  rintro e w6 ⟨rfl, hb⟩
  have HBq := Lib.hid (HB.out.trans (hb.mono HB.out.size))
  clear HB
  have HB := HBq
  clear HBq
  have BXq := Lib.hid (BX.out.next hb)
  clear BX
  have BX := BXq
  clear BXq
  have JAq := Lib.hid (JA.out.next hb)
  clear JA
  have JA := JAq
  clear JAq
  have J2q := Lib.hid (J2.out.next hb)
  clear J2
  have J2 := J2q
  clear J2q
  have B2q := Lib.hid (B2.out.next hb)
  clear B2
  have B2 := B2q
  clear B2q
  clear hb
  clear q0 q1 q2 q3 q4 q5 q6 q7 q8 q9 q10 q11 q12 r0 r1 r2 r3 r4 r5 r6 r7 r8 r9 r10 r11 r12
  have q0 := BX.out.c0
  have q1 := BX.out.c1
  have q2 := BX.out.c2
  have q3 := BX.out.c3
  have q4 := BX.out.c4
  have q5 := BX.out.c5
  have q6 := BX.out.c6
  have q7 := BX.out.c7
  have q8 := BX.out.c8
  have q9 := BX.out.c9
  have q10 := BX.out.c10
  have q11 := BX.out.c11
  have q12 := BX.out.c12
  clear B2
  clear J2
  go_wp2_with fail
  refine (h11_do H JA.out hmm I6.out IN.out EC.out ECE.out).mono ?_
  rintro e w7 ⟨⟨A5, m5, c5, rfl, hj5⟩, hb⟩
  have HBq := Lib.hid (HB.out.trans (hb.mono HB.out.size))
  clear HB
  have HB := HBq
  clear HBq
  have BXq := Lib.hid (BX.out.next hb)
  clear BX
  have BX := BXq
  clear BXq
  have JAq := Lib.hid (JA.out.next hb)
  clear JA
  have JA := JAq
  clear JAq
  clear hb
  have J5 := Lib.hid hj5
  clear hj5
  clear q0 q1 q2 q3 q4 q5 q6 q7 q8 q9 q10 q11 q12
  have hb := Below.alloc (Below.refl w7.heap.size w7) (Nat.le_refl _) (.cells #[.int .i64 j.id, .int .i64 j.spec.nodes, .int .i64 j.spec.cores, .int .i64 j.spec.gpus, .string j.spec.tag, .bool j.spec.whole, .int .i64 j.spec.long, .int .i64 j.spec.prio, .slice A5 m5 c5, .int .i64 5, .int .i64 j.came, .int .i64 j.frm, .int .i64 now] 26)
  have B5q := Lib.hid (boxJ_new w7 ⟨j.id, j.spec, j.needs, 5, j.came, j.frm, now⟩ A5 m5 c5)
  have HBq := Lib.hid (HB.out.trans (hb.mono HB.out.size))
  clear HB
  have HB := HBq
  clear HBq
  have BXq := Lib.hid (BX.out.next hb)
  clear BX
  have BX := BXq
  clear BXq
  have JAq := Lib.hid (JA.out.next hb)
  clear JA
  have JA := JAq
  clear JAq
  have J5q := Lib.hid (J5.out.next hb)
  clear J5
  have J5 := J5q
  clear J5q
  clear hb
  have B5 := B5q
  clear B5q
  have q0 := BX.out.c0
  have q1 := BX.out.c1
  have q2 := BX.out.c2
  have q3 := BX.out.c3
  have q4 := BX.out.c4
  have q5 := BX.out.c5
  have q6 := BX.out.c6
  have q7 := BX.out.c7
  have q8 := BX.out.c8
  have q9 := BX.out.c9
  have q10 := BX.out.c10
  have q11 := BX.out.c11
  have q12 := BX.out.c12
  have r0 := B5.out.c0
  have r1 := B5.out.c1
  have r2 := B5.out.c2
  have r3 := B5.out.c3
  have r4 := B5.out.c4
  have r5 := B5.out.c5
  have r6 := B5.out.c6
  have r7 := B5.out.c7
  have r8 := B5.out.c8
  have r9 := B5.out.c9
  have r10 := B5.out.c10
  have r11 := B5.out.c11
  have r12 := B5.out.c12
  simp only at r9 r11 r12
  go_wp2_with fail
  refine (h11_right H JA.out hmm RT.out).mono ?_
  rintro e w8 ⟨rfl, hb⟩
  have HBq := Lib.hid (HB.out.trans (hb.mono HB.out.size))
  clear HB
  have HB := HBq
  clear HBq
  have BXq := Lib.hid (BX.out.next hb)
  clear BX
  have BX := BXq
  clear BXq
  have JAq := Lib.hid (JA.out.next hb)
  clear JA
  have JA := JAq
  clear JAq
  have J5q := Lib.hid (J5.out.next hb)
  clear J5
  have J5 := J5q
  clear J5q
  have B5q := Lib.hid (B5.out.next hb)
  clear B5
  have B5 := B5q
  clear B5q
  clear hb
  clear q0 q1 q2 q3 q4 q5 q6 q7 q8 q9 q10 q11 q12 r0 r1 r2 r3 r4 r5 r6 r7 r8 r9 r10 r11 r12
  have q0 := BX.out.c0
  have q1 := BX.out.c1
  have q2 := BX.out.c2
  have q3 := BX.out.c3
  have q4 := BX.out.c4
  have q5 := BX.out.c5
  have q6 := BX.out.c6
  have q7 := BX.out.c7
  have q8 := BX.out.c8
  have q9 := BX.out.c9
  have q10 := BX.out.c10
  have q11 := BX.out.c11
  have q12 := BX.out.c12
  have r0 := B5.out.c0
  have r1 := B5.out.c1
  have r2 := B5.out.c2
  have r3 := B5.out.c3
  have r4 := B5.out.c4
  have r5 := B5.out.c5
  have r6 := B5.out.c6
  have r7 := B5.out.c7
  have r8 := B5.out.c8
  have r9 := B5.out.c9
  have r10 := B5.out.c10
  have r11 := B5.out.c11
  have r12 := B5.out.c12
  simp only at r9 r11 r12
  go_wp2_with fail
  refine (h11_over H IST.out OV.out).mono ?_
  rintro e w9 ⟨rfl, hb⟩
  have HBq := Lib.hid (HB.out.trans (hb.mono HB.out.size))
  clear HB
  have HB := HBq
  clear HBq
  have BXq := Lib.hid (BX.out.next hb)
  clear BX
  have BX := BXq
  clear BXq
  have JAq := Lib.hid (JA.out.next hb)
  clear JA
  have JA := JAq
  clear JAq
  have J5q := Lib.hid (J5.out.next hb)
  clear J5
  have J5 := J5q
  clear J5q
  have B5q := Lib.hid (B5.out.next hb)
  clear B5
  have B5 := B5q
  clear B5q
  clear hb
  clear q0 q1 q2 q3 q4 q5 q6 q7 q8 q9 q10 q11 q12 r0 r1 r2 r3 r4 r5 r6 r7 r8 r9 r10 r11 r12
  have q0 := BX.out.c0
  have q1 := BX.out.c1
  have q2 := BX.out.c2
  have q3 := BX.out.c3
  have q4 := BX.out.c4
  have q5 := BX.out.c5
  have q6 := BX.out.c6
  have q7 := BX.out.c7
  have q8 := BX.out.c8
  have q9 := BX.out.c9
  have q10 := BX.out.c10
  have q11 := BX.out.c11
  have q12 := BX.out.c12
  have r0 := B5.out.c0
  have r1 := B5.out.c1
  have r2 := B5.out.c2
  have r3 := B5.out.c3
  have r4 := B5.out.c4
  have r5 := B5.out.c5
  have r6 := B5.out.c6
  have r7 := B5.out.c7
  have r8 := B5.out.c8
  have r9 := B5.out.c9
  have r10 := B5.out.c10
  have r11 := B5.out.c11
  have r12 := B5.out.c12
  simp only at r9 r11 r12
  go_wp2
  go_ret
  exact ⟨rfl, HB.out⟩

set_option maxRecDepth 100000 in
set_option maxHeartbeats 8000000 in
theorem jobFree_i1n (H : JobOk) (A : Option Addr) (m c : Nat) (j : Jb) (now a b : Int) (w : World) (hj : JAsk w A m c j) (hn : I64 now) (ha : I64 a) (hb : I64 b) (h40 : ¬ 40 < m) (k1 : 0 ≤ a) (k2 : a ≤ 6) (k3 : a = b) (g1 : doE j 1 now ≠ 0) (g2 : rightJ j = false) :
    Calls Try.prog 5 #[.agg #[.int .i64 j.id, .int .i64 j.spec.nodes, .int .i64 j.spec.cores, .int .i64 j.spec.gpus, .string j.spec.tag, .bool j.spec.whole, .int .i64 j.spec.long, .int .i64 j.spec.prio, .slice A m c, .int .i64 j.state, .int .i64 j.came, .int .i64 j.frm, .int .i64 j.to], .int .i64 now, .int .i64 a, .int .i64 b] w fun e w' => e = .returned (.bool true) ∧ Below w.heap.size w w' := by
  obtain ⟨W, hW⟩ : ∃ W, W = w.alloc (jO j A m c) := ⟨_, rfl⟩
  have BX : Hid (BoxJ W w.heap.size j A m c) := Lib.hid (by rw [hW]; exact boxJ_new w j A m c)
  have hb0 : Below w.heap.size w W := by rw [hW]; exact (Below.refl _ _).alloc (Nat.le_refl _) _
  have HB := Lib.hid hb0
  have JA := Lib.hid (hj.next hb0)
  unfold jO at hW
  have h40d : decide ((40 : Int) < (m : Int)) = false := by simp; omega
  have hmm : m ≤ 100 := by omega
  have HML := Lib.hid hj.reads.1
  have IN := Lib.hid hn
  have IA := Lib.hid ha
  have IB := Lib.hid hb
  have IST := Lib.hid hj.int.2.1
  have I1 : Hid (I64 1) := Lib.hid (by unfold I64; omega)
  have I2 : Hid (I64 2) := Lib.hid (by unfold I64; omega)
  have I6 : Hid (I64 6) := Lib.hid (by unfold I64; omega)
  have d1 : decide (a < 0) = false := decide_eq_false (by omega)
  have d2 : decide (6 < a) = false := decide_eq_false (by omega)
  have hsz := name_in k1 k2
  have hab : nameJ b = nameJ a := by rw [k3]
  obtain ⟨x, hx⟩ : ∃ x, nameJ a = x := ⟨_, rfl⟩
  rw [hx] at hsz hab
  obtain ⟨s1, s2, s3, s4⟩ := str_some hsz
  have NA := Lib.hid hx
  have NB := Lib.hid hab
  have d3 : (a != b) = false := by simpa using k3
  clear k1 k2 k3 hx hab hsz
  obtain ⟨k, hk⟩ : ∃ k, doJ j 1 now = k := ⟨_, rfl⟩
  obtain ⟨eh, heh⟩ : ∃ e, doE j 1 now = e := ⟨_, rfl⟩
  rw [heh] at g1
  have dh : (eh == 0) = false := by rw [beq_eq_false_iff_ne]; exact g1
  have EH := Lib.hid hk
  have EHE := Lib.hid heh
  clear hk heh g1
  obtain ⟨hc1, hc2⟩ := bad_do (what := 6) (now := now) fun h => of_decide_eq_false g2 h.1
  have ECE := Lib.hid hc1
  have EC := Lib.hid hc2
  have RT := Lib.hid g2
  clear hc1 hc2 g2
  clear hb0 hj hn ha hb h40
  go_enter Try.func5, Try.ntmps5
  go_wp2_with fail
  rw [← hW]
  refine (awake11_any H _).mono ?_
  rintro e w1 ⟨rfl, hb⟩
  have HBq := Lib.hid (HB.out.trans (hb.mono HB.out.size))
  clear HB
  have HB := HBq
  clear HBq
  have BXq := Lib.hid (BX.out.next hb)
  clear BX
  have BX := BXq
  clear BXq
  have JAq := Lib.hid (JA.out.next hb)
  clear JA
  have JA := JAq
  clear JAq
  clear hb
  clear hW
  have q0 := BX.out.c0
  have q1 := BX.out.c1
  have q2 := BX.out.c2
  have q3 := BX.out.c3
  have q4 := BX.out.c4
  have q5 := BX.out.c5
  have q6 := BX.out.c6
  have q7 := BX.out.c7
  have q8 := BX.out.c8
  have q9 := BX.out.c9
  have q10 := BX.out.c10
  have q11 := BX.out.c11
  have q12 := BX.out.c12
  go_wp2_with fail
  refine (h11_name H IA.out NA.out).mono ?_
  rintro e w2 ⟨rfl, hb⟩
  have HBq := Lib.hid (HB.out.trans (hb.mono HB.out.size))
  clear HB
  have HB := HBq
  clear HBq
  have BXq := Lib.hid (BX.out.next hb)
  clear BX
  have BX := BXq
  clear BXq
  have JAq := Lib.hid (JA.out.next hb)
  clear JA
  have JA := JAq
  clear JAq
  clear hb
  clear q0 q1 q2 q3 q4 q5 q6 q7 q8 q9 q10 q11 q12
  go_wp2_with fail
  refine (h11_name H IB.out NB.out).mono ?_
  rintro e w3 ⟨rfl, hb⟩
  have HBq := Lib.hid (HB.out.trans (hb.mono HB.out.size))
  clear HB
  have HB := HBq
  clear HBq
  have BXq := Lib.hid (BX.out.next hb)
  clear BX
  have BX := BXq
  clear BXq
  have JAq := Lib.hid (JA.out.next hb)
  clear JA
  have JA := JAq
  clear JAq
  clear hb
  have q0 := BX.out.c0
  have q1 := BX.out.c1
  have q2 := BX.out.c2
  have q3 := BX.out.c3
  have q4 := BX.out.c4
  have q5 := BX.out.c5
  have q6 := BX.out.c6
  have q7 := BX.out.c7
  have q8 := BX.out.c8
  have q9 := BX.out.c9
  have q10 := BX.out.c10
  have q11 := BX.out.c11
  have q12 := BX.out.c12
  go_wp2_with fail
  refine (h11_do H JA.out hmm I1.out IN.out EH.out EHE.out).mono ?_
  rintro e w4 ⟨⟨A1, m1, c1, rfl, hj1⟩, hb⟩
  have HBq := Lib.hid (HB.out.trans (hb.mono HB.out.size))
  clear HB
  have HB := HBq
  clear HBq
  have BXq := Lib.hid (BX.out.next hb)
  clear BX
  have BX := BXq
  clear BXq
  have JAq := Lib.hid (JA.out.next hb)
  clear JA
  have JA := JAq
  clear JAq
  clear hb
  have J1 := Lib.hid hj1
  clear hj1
  clear q0 q1 q2 q3 q4 q5 q6 q7 q8 q9 q10 q11 q12
  have hb := Below.alloc (Below.refl w4.heap.size w4) (Nat.le_refl _) (.cells #[.int .i64 k.id, .int .i64 k.spec.nodes, .int .i64 k.spec.cores, .int .i64 k.spec.gpus, .string k.spec.tag, .bool k.spec.whole, .int .i64 k.spec.long, .int .i64 k.spec.prio, .slice A1 m1 c1, .int .i64 k.state, .int .i64 k.came, .int .i64 k.frm, .int .i64 k.to] 26)
  have B1q := Lib.hid (boxJ_new w4 k A1 m1 c1)
  have HBq := Lib.hid (HB.out.trans (hb.mono HB.out.size))
  clear HB
  have HB := HBq
  clear HBq
  have BXq := Lib.hid (BX.out.next hb)
  clear BX
  have BX := BXq
  clear BXq
  have JAq := Lib.hid (JA.out.next hb)
  clear JA
  have JA := JAq
  clear JAq
  have J1q := Lib.hid (J1.out.next hb)
  clear J1
  have J1 := J1q
  clear J1q
  clear hb
  have B1 := B1q
  clear B1q
  have q0 := BX.out.c0
  have q1 := BX.out.c1
  have q2 := BX.out.c2
  have q3 := BX.out.c3
  have q4 := BX.out.c4
  have q5 := BX.out.c5
  have q6 := BX.out.c6
  have q7 := BX.out.c7
  have q8 := BX.out.c8
  have q9 := BX.out.c9
  have q10 := BX.out.c10
  have q11 := BX.out.c11
  have q12 := BX.out.c12
  go_wp2_with fail
  refine (h11_do H JA.out hmm I6.out IN.out EC.out ECE.out).mono ?_
  rintro e w5 ⟨⟨A5, m5, c5, rfl, hj5⟩, hb⟩
  have HBq := Lib.hid (HB.out.trans (hb.mono HB.out.size))
  clear HB
  have HB := HBq
  clear HBq
  have BXq := Lib.hid (BX.out.next hb)
  clear BX
  have BX := BXq
  clear BXq
  have JAq := Lib.hid (JA.out.next hb)
  clear JA
  have JA := JAq
  clear JAq
  have J1q := Lib.hid (J1.out.next hb)
  clear J1
  have J1 := J1q
  clear J1q
  have B1q := Lib.hid (B1.out.next hb)
  clear B1
  have B1 := B1q
  clear B1q
  clear hb
  have J5 := Lib.hid hj5
  clear hj5
  clear q0 q1 q2 q3 q4 q5 q6 q7 q8 q9 q10 q11 q12
  have hb := Below.alloc (Below.refl w5.heap.size w5) (Nat.le_refl _) (.cells #[.int .i64 j.id, .int .i64 j.spec.nodes, .int .i64 j.spec.cores, .int .i64 j.spec.gpus, .string j.spec.tag, .bool j.spec.whole, .int .i64 j.spec.long, .int .i64 j.spec.prio, .slice A5 m5 c5, .int .i64 j.state, .int .i64 j.came, .int .i64 j.frm, .int .i64 j.to] 26)
  have B5q := Lib.hid (boxJ_new w5 j A5 m5 c5)
  have HBq := Lib.hid (HB.out.trans (hb.mono HB.out.size))
  clear HB
  have HB := HBq
  clear HBq
  have BXq := Lib.hid (BX.out.next hb)
  clear BX
  have BX := BXq
  clear BXq
  have JAq := Lib.hid (JA.out.next hb)
  clear JA
  have JA := JAq
  clear JAq
  have J1q := Lib.hid (J1.out.next hb)
  clear J1
  have J1 := J1q
  clear J1q
  have B1q := Lib.hid (B1.out.next hb)
  clear B1
  have B1 := B1q
  clear B1q
  have J5q := Lib.hid (J5.out.next hb)
  clear J5
  have J5 := J5q
  clear J5q
  clear hb
  have B5 := B5q
  clear B5q
  have q0 := BX.out.c0
  have q1 := BX.out.c1
  have q2 := BX.out.c2
  have q3 := BX.out.c3
  have q4 := BX.out.c4
  have q5 := BX.out.c5
  have q6 := BX.out.c6
  have q7 := BX.out.c7
  have q8 := BX.out.c8
  have q9 := BX.out.c9
  have q10 := BX.out.c10
  have q11 := BX.out.c11
  have q12 := BX.out.c12
  have r0 := B5.out.c0
  have r1 := B5.out.c1
  have r2 := B5.out.c2
  have r3 := B5.out.c3
  have r4 := B5.out.c4
  have r5 := B5.out.c5
  have r6 := B5.out.c6
  have r7 := B5.out.c7
  have r8 := B5.out.c8
  have r9 := B5.out.c9
  have r10 := B5.out.c10
  have r11 := B5.out.c11
  have r12 := B5.out.c12
  go_wp2_with fail
  refine (h11_right H JA.out hmm RT.out).mono ?_
  rintro e w6 ⟨rfl, hb⟩
  have HBq := Lib.hid (HB.out.trans (hb.mono HB.out.size))
  clear HB
  have HB := HBq
  clear HBq
  have BXq := Lib.hid (BX.out.next hb)
  clear BX
  have BX := BXq
  clear BXq
  have JAq := Lib.hid (JA.out.next hb)
  clear JA
  have JA := JAq
  clear JAq
  have J1q := Lib.hid (J1.out.next hb)
  clear J1
  have J1 := J1q
  clear J1q
  have B1q := Lib.hid (B1.out.next hb)
  clear B1
  have B1 := B1q
  clear B1q
  have J5q := Lib.hid (J5.out.next hb)
  clear J5
  have J5 := J5q
  clear J5q
  have B5q := Lib.hid (B5.out.next hb)
  clear B5
  have B5 := B5q
  clear B5q
  clear hb
  clear q0 q1 q2 q3 q4 q5 q6 q7 q8 q9 q10 q11 q12 r0 r1 r2 r3 r4 r5 r6 r7 r8 r9 r10 r11 r12
  have q0 := BX.out.c0
  have q1 := BX.out.c1
  have q2 := BX.out.c2
  have q3 := BX.out.c3
  have q4 := BX.out.c4
  have q5 := BX.out.c5
  have q6 := BX.out.c6
  have q7 := BX.out.c7
  have q8 := BX.out.c8
  have q9 := BX.out.c9
  have q10 := BX.out.c10
  have q11 := BX.out.c11
  have q12 := BX.out.c12
  have r0 := B5.out.c0
  have r1 := B5.out.c1
  have r2 := B5.out.c2
  have r3 := B5.out.c3
  have r4 := B5.out.c4
  have r5 := B5.out.c5
  have r6 := B5.out.c6
  have r7 := B5.out.c7
  have r8 := B5.out.c8
  have r9 := B5.out.c9
  have r10 := B5.out.c10
  have r11 := B5.out.c11
  have r12 := B5.out.c12
  go_wp2_with fail
  refine (refSameJ_b J5.out JA.out (sameJ_iff.2 rfl)).mono ?_
  rintro e w7 ⟨rfl, hb⟩
  have HBq := Lib.hid (HB.out.trans (hb.mono HB.out.size))
  clear HB
  have HB := HBq
  clear HBq
  have BXq := Lib.hid (BX.out.next hb)
  clear BX
  have BX := BXq
  clear BXq
  have JAq := Lib.hid (JA.out.next hb)
  clear JA
  have JA := JAq
  clear JAq
  have J1q := Lib.hid (J1.out.next hb)
  clear J1
  have J1 := J1q
  clear J1q
  have B1q := Lib.hid (B1.out.next hb)
  clear B1
  have B1 := B1q
  clear B1q
  have J5q := Lib.hid (J5.out.next hb)
  clear J5
  have J5 := J5q
  clear J5q
  have B5q := Lib.hid (B5.out.next hb)
  clear B5
  have B5 := B5q
  clear B5q
  clear hb
  go_wp2
  go_ret
  exact ⟨rfl, HB.out⟩

set_option maxRecDepth 100000 in
set_option maxHeartbeats 8000000 in
theorem jobFree_i1a (H : JobOk) (A : Option Addr) (m c : Nat) (j : Jb) (now a b : Int) (w : World) (hj : JAsk w A m c j) (hn : I64 now) (ha : I64 a) (hb : I64 b) (h40 : ¬ 40 < m) (k1 : 0 ≤ a) (k2 : a ≤ 6) (k3 : a = b) (g1 : doE j 1 now ≠ 0) (g2 : rightJ j = true) (g3 : doE j 6 now = 1) :
    Calls Try.prog 5 #[.agg #[.int .i64 j.id, .int .i64 j.spec.nodes, .int .i64 j.spec.cores, .int .i64 j.spec.gpus, .string j.spec.tag, .bool j.spec.whole, .int .i64 j.spec.long, .int .i64 j.spec.prio, .slice A m c, .int .i64 j.state, .int .i64 j.came, .int .i64 j.frm, .int .i64 j.to], .int .i64 now, .int .i64 a, .int .i64 b] w fun e w' => e = .returned (.bool true) ∧ Below w.heap.size w w' := by
  obtain ⟨W, hW⟩ : ∃ W, W = w.alloc (jO j A m c) := ⟨_, rfl⟩
  have BX : Hid (BoxJ W w.heap.size j A m c) := Lib.hid (by rw [hW]; exact boxJ_new w j A m c)
  have hb0 : Below w.heap.size w W := by rw [hW]; exact (Below.refl _ _).alloc (Nat.le_refl _) _
  have HB := Lib.hid hb0
  have JA := Lib.hid (hj.next hb0)
  unfold jO at hW
  have h40d : decide ((40 : Int) < (m : Int)) = false := by simp; omega
  have hmm : m ≤ 100 := by omega
  have HML := Lib.hid hj.reads.1
  have IN := Lib.hid hn
  have IA := Lib.hid ha
  have IB := Lib.hid hb
  have IST := Lib.hid hj.int.2.1
  have I1 : Hid (I64 1) := Lib.hid (by unfold I64; omega)
  have I2 : Hid (I64 2) := Lib.hid (by unfold I64; omega)
  have I6 : Hid (I64 6) := Lib.hid (by unfold I64; omega)
  have d1 : decide (a < 0) = false := decide_eq_false (by omega)
  have d2 : decide (6 < a) = false := decide_eq_false (by omega)
  have hsz := name_in k1 k2
  have hab : nameJ b = nameJ a := by rw [k3]
  obtain ⟨x, hx⟩ : ∃ x, nameJ a = x := ⟨_, rfl⟩
  rw [hx] at hsz hab
  obtain ⟨s1, s2, s3, s4⟩ := str_some hsz
  have NA := Lib.hid hx
  have NB := Lib.hid hab
  have d3 : (a != b) = false := by simpa using k3
  clear k1 k2 k3 hx hab hsz
  obtain ⟨k, hk⟩ : ∃ k, doJ j 1 now = k := ⟨_, rfl⟩
  obtain ⟨eh, heh⟩ : ∃ e, doE j 1 now = e := ⟨_, rfl⟩
  rw [heh] at g1
  have dh : (eh == 0) = false := by rw [beq_eq_false_iff_ne]; exact g1
  have EH := Lib.hid hk
  have EHE := Lib.hid heh
  clear hk heh g1
  have hc2 : doJ j 6 now = j := doJ_no (by rw [g3]; decide)
  have ECE := Lib.hid g3
  have EC := Lib.hid hc2
  have RT := Lib.hid g2
  clear hc2 g2 g3
  clear hb0 hj hn ha hb h40
  go_enter Try.func5, Try.ntmps5
  go_wp2_with fail
  rw [← hW]
  refine (awake11_any H _).mono ?_
  rintro e w1 ⟨rfl, hb⟩
  have HBq := Lib.hid (HB.out.trans (hb.mono HB.out.size))
  clear HB
  have HB := HBq
  clear HBq
  have BXq := Lib.hid (BX.out.next hb)
  clear BX
  have BX := BXq
  clear BXq
  have JAq := Lib.hid (JA.out.next hb)
  clear JA
  have JA := JAq
  clear JAq
  clear hb
  clear hW
  have q0 := BX.out.c0
  have q1 := BX.out.c1
  have q2 := BX.out.c2
  have q3 := BX.out.c3
  have q4 := BX.out.c4
  have q5 := BX.out.c5
  have q6 := BX.out.c6
  have q7 := BX.out.c7
  have q8 := BX.out.c8
  have q9 := BX.out.c9
  have q10 := BX.out.c10
  have q11 := BX.out.c11
  have q12 := BX.out.c12
  go_wp2_with fail
  refine (h11_name H IA.out NA.out).mono ?_
  rintro e w2 ⟨rfl, hb⟩
  have HBq := Lib.hid (HB.out.trans (hb.mono HB.out.size))
  clear HB
  have HB := HBq
  clear HBq
  have BXq := Lib.hid (BX.out.next hb)
  clear BX
  have BX := BXq
  clear BXq
  have JAq := Lib.hid (JA.out.next hb)
  clear JA
  have JA := JAq
  clear JAq
  clear hb
  clear q0 q1 q2 q3 q4 q5 q6 q7 q8 q9 q10 q11 q12
  go_wp2_with fail
  refine (h11_name H IB.out NB.out).mono ?_
  rintro e w3 ⟨rfl, hb⟩
  have HBq := Lib.hid (HB.out.trans (hb.mono HB.out.size))
  clear HB
  have HB := HBq
  clear HBq
  have BXq := Lib.hid (BX.out.next hb)
  clear BX
  have BX := BXq
  clear BXq
  have JAq := Lib.hid (JA.out.next hb)
  clear JA
  have JA := JAq
  clear JAq
  clear hb
  have q0 := BX.out.c0
  have q1 := BX.out.c1
  have q2 := BX.out.c2
  have q3 := BX.out.c3
  have q4 := BX.out.c4
  have q5 := BX.out.c5
  have q6 := BX.out.c6
  have q7 := BX.out.c7
  have q8 := BX.out.c8
  have q9 := BX.out.c9
  have q10 := BX.out.c10
  have q11 := BX.out.c11
  have q12 := BX.out.c12
  go_wp2_with fail
  refine (h11_do H JA.out hmm I1.out IN.out EH.out EHE.out).mono ?_
  rintro e w4 ⟨⟨A1, m1, c1, rfl, hj1⟩, hb⟩
  have HBq := Lib.hid (HB.out.trans (hb.mono HB.out.size))
  clear HB
  have HB := HBq
  clear HBq
  have BXq := Lib.hid (BX.out.next hb)
  clear BX
  have BX := BXq
  clear BXq
  have JAq := Lib.hid (JA.out.next hb)
  clear JA
  have JA := JAq
  clear JAq
  clear hb
  have J1 := Lib.hid hj1
  clear hj1
  clear q0 q1 q2 q3 q4 q5 q6 q7 q8 q9 q10 q11 q12
  have hb := Below.alloc (Below.refl w4.heap.size w4) (Nat.le_refl _) (.cells #[.int .i64 k.id, .int .i64 k.spec.nodes, .int .i64 k.spec.cores, .int .i64 k.spec.gpus, .string k.spec.tag, .bool k.spec.whole, .int .i64 k.spec.long, .int .i64 k.spec.prio, .slice A1 m1 c1, .int .i64 k.state, .int .i64 k.came, .int .i64 k.frm, .int .i64 k.to] 26)
  have B1q := Lib.hid (boxJ_new w4 k A1 m1 c1)
  have HBq := Lib.hid (HB.out.trans (hb.mono HB.out.size))
  clear HB
  have HB := HBq
  clear HBq
  have BXq := Lib.hid (BX.out.next hb)
  clear BX
  have BX := BXq
  clear BXq
  have JAq := Lib.hid (JA.out.next hb)
  clear JA
  have JA := JAq
  clear JAq
  have J1q := Lib.hid (J1.out.next hb)
  clear J1
  have J1 := J1q
  clear J1q
  clear hb
  have B1 := B1q
  clear B1q
  have q0 := BX.out.c0
  have q1 := BX.out.c1
  have q2 := BX.out.c2
  have q3 := BX.out.c3
  have q4 := BX.out.c4
  have q5 := BX.out.c5
  have q6 := BX.out.c6
  have q7 := BX.out.c7
  have q8 := BX.out.c8
  have q9 := BX.out.c9
  have q10 := BX.out.c10
  have q11 := BX.out.c11
  have q12 := BX.out.c12
  go_wp2_with fail
  refine (h11_do H JA.out hmm I6.out IN.out EC.out ECE.out).mono ?_
  rintro e w5 ⟨⟨A5, m5, c5, rfl, hj5⟩, hb⟩
  have HBq := Lib.hid (HB.out.trans (hb.mono HB.out.size))
  clear HB
  have HB := HBq
  clear HBq
  have BXq := Lib.hid (BX.out.next hb)
  clear BX
  have BX := BXq
  clear BXq
  have JAq := Lib.hid (JA.out.next hb)
  clear JA
  have JA := JAq
  clear JAq
  have J1q := Lib.hid (J1.out.next hb)
  clear J1
  have J1 := J1q
  clear J1q
  have B1q := Lib.hid (B1.out.next hb)
  clear B1
  have B1 := B1q
  clear B1q
  clear hb
  have J5 := Lib.hid hj5
  clear hj5
  clear q0 q1 q2 q3 q4 q5 q6 q7 q8 q9 q10 q11 q12
  have hb := Below.alloc (Below.refl w5.heap.size w5) (Nat.le_refl _) (.cells #[.int .i64 j.id, .int .i64 j.spec.nodes, .int .i64 j.spec.cores, .int .i64 j.spec.gpus, .string j.spec.tag, .bool j.spec.whole, .int .i64 j.spec.long, .int .i64 j.spec.prio, .slice A5 m5 c5, .int .i64 j.state, .int .i64 j.came, .int .i64 j.frm, .int .i64 j.to] 26)
  have B5q := Lib.hid (boxJ_new w5 j A5 m5 c5)
  have HBq := Lib.hid (HB.out.trans (hb.mono HB.out.size))
  clear HB
  have HB := HBq
  clear HBq
  have BXq := Lib.hid (BX.out.next hb)
  clear BX
  have BX := BXq
  clear BXq
  have JAq := Lib.hid (JA.out.next hb)
  clear JA
  have JA := JAq
  clear JAq
  have J1q := Lib.hid (J1.out.next hb)
  clear J1
  have J1 := J1q
  clear J1q
  have B1q := Lib.hid (B1.out.next hb)
  clear B1
  have B1 := B1q
  clear B1q
  have J5q := Lib.hid (J5.out.next hb)
  clear J5
  have J5 := J5q
  clear J5q
  clear hb
  have B5 := B5q
  clear B5q
  have q0 := BX.out.c0
  have q1 := BX.out.c1
  have q2 := BX.out.c2
  have q3 := BX.out.c3
  have q4 := BX.out.c4
  have q5 := BX.out.c5
  have q6 := BX.out.c6
  have q7 := BX.out.c7
  have q8 := BX.out.c8
  have q9 := BX.out.c9
  have q10 := BX.out.c10
  have q11 := BX.out.c11
  have q12 := BX.out.c12
  have r0 := B5.out.c0
  have r1 := B5.out.c1
  have r2 := B5.out.c2
  have r3 := B5.out.c3
  have r4 := B5.out.c4
  have r5 := B5.out.c5
  have r6 := B5.out.c6
  have r7 := B5.out.c7
  have r8 := B5.out.c8
  have r9 := B5.out.c9
  have r10 := B5.out.c10
  have r11 := B5.out.c11
  have r12 := B5.out.c12
  go_wp2_with fail
  refine (h11_right H JA.out hmm RT.out).mono ?_
  rintro e w6 ⟨rfl, hb⟩
  have HBq := Lib.hid (HB.out.trans (hb.mono HB.out.size))
  clear HB
  have HB := HBq
  clear HBq
  have BXq := Lib.hid (BX.out.next hb)
  clear BX
  have BX := BXq
  clear BXq
  have JAq := Lib.hid (JA.out.next hb)
  clear JA
  have JA := JAq
  clear JAq
  have J1q := Lib.hid (J1.out.next hb)
  clear J1
  have J1 := J1q
  clear J1q
  have B1q := Lib.hid (B1.out.next hb)
  clear B1
  have B1 := B1q
  clear B1q
  have J5q := Lib.hid (J5.out.next hb)
  clear J5
  have J5 := J5q
  clear J5q
  have B5q := Lib.hid (B5.out.next hb)
  clear B5
  have B5 := B5q
  clear B5q
  clear hb
  clear q0 q1 q2 q3 q4 q5 q6 q7 q8 q9 q10 q11 q12 r0 r1 r2 r3 r4 r5 r6 r7 r8 r9 r10 r11 r12
  have q0 := BX.out.c0
  have q1 := BX.out.c1
  have q2 := BX.out.c2
  have q3 := BX.out.c3
  have q4 := BX.out.c4
  have q5 := BX.out.c5
  have q6 := BX.out.c6
  have q7 := BX.out.c7
  have q8 := BX.out.c8
  have q9 := BX.out.c9
  have q10 := BX.out.c10
  have q11 := BX.out.c11
  have q12 := BX.out.c12
  have r0 := B5.out.c0
  have r1 := B5.out.c1
  have r2 := B5.out.c2
  have r3 := B5.out.c3
  have r4 := B5.out.c4
  have r5 := B5.out.c5
  have r6 := B5.out.c6
  have r7 := B5.out.c7
  have r8 := B5.out.c8
  have r9 := B5.out.c9
  have r10 := B5.out.c10
  have r11 := B5.out.c11
  have r12 := B5.out.c12
  go_wp2_with fail
  refine (refSameJ_b J5.out JA.out (sameJ_iff.2 rfl)).mono ?_
  rintro e w7 ⟨rfl, hb⟩
  have HBq := Lib.hid (HB.out.trans (hb.mono HB.out.size))
  clear HB
  have HB := HBq
  clear HBq
  have BXq := Lib.hid (BX.out.next hb)
  clear BX
  have BX := BXq
  clear BXq
  have JAq := Lib.hid (JA.out.next hb)
  clear JA
  have JA := JAq
  clear JAq
  have J1q := Lib.hid (J1.out.next hb)
  clear J1
  have J1 := J1q
  clear J1q
  have B1q := Lib.hid (B1.out.next hb)
  clear B1
  have B1 := B1q
  clear B1q
  have J5q := Lib.hid (J5.out.next hb)
  clear J5
  have J5 := J5q
  clear J5q
  have B5q := Lib.hid (B5.out.next hb)
  clear B5
  have B5 := B5q
  clear B5q
  clear hb
  go_wp2
  go_ret
  exact ⟨rfl, HB.out⟩

set_option maxRecDepth 100000 in
set_option maxHeartbeats 8000000 in
theorem jobFree_i1e (H : JobOk) (A : Option Addr) (m c : Nat) (j : Jb) (now a b : Int) (w : World) (hj : JAsk w A m c j) (hn : I64 now) (ha : I64 a) (hb : I64 b) (h40 : ¬ 40 < m) (k1 : 0 ≤ a) (k2 : a ≤ 6) (k3 : a = b) (g1 : doE j 1 now ≠ 0) (g2 : rightJ j = true) (g3 : doE j 6 now = 8) :
    Calls Try.prog 5 #[.agg #[.int .i64 j.id, .int .i64 j.spec.nodes, .int .i64 j.spec.cores, .int .i64 j.spec.gpus, .string j.spec.tag, .bool j.spec.whole, .int .i64 j.spec.long, .int .i64 j.spec.prio, .slice A m c, .int .i64 j.state, .int .i64 j.came, .int .i64 j.frm, .int .i64 j.to], .int .i64 now, .int .i64 a, .int .i64 b] w fun e w' => e = .returned (.bool true) ∧ Below w.heap.size w w' := by
  obtain ⟨W, hW⟩ : ∃ W, W = w.alloc (jO j A m c) := ⟨_, rfl⟩
  have BX : Hid (BoxJ W w.heap.size j A m c) := Lib.hid (by rw [hW]; exact boxJ_new w j A m c)
  have hb0 : Below w.heap.size w W := by rw [hW]; exact (Below.refl _ _).alloc (Nat.le_refl _) _
  have HB := Lib.hid hb0
  have JA := Lib.hid (hj.next hb0)
  unfold jO at hW
  have h40d : decide ((40 : Int) < (m : Int)) = false := by simp; omega
  have hmm : m ≤ 100 := by omega
  have HML := Lib.hid hj.reads.1
  have IN := Lib.hid hn
  have IA := Lib.hid ha
  have IB := Lib.hid hb
  have IST := Lib.hid hj.int.2.1
  have I1 : Hid (I64 1) := Lib.hid (by unfold I64; omega)
  have I2 : Hid (I64 2) := Lib.hid (by unfold I64; omega)
  have I6 : Hid (I64 6) := Lib.hid (by unfold I64; omega)
  have d1 : decide (a < 0) = false := decide_eq_false (by omega)
  have d2 : decide (6 < a) = false := decide_eq_false (by omega)
  have hsz := name_in k1 k2
  have hab : nameJ b = nameJ a := by rw [k3]
  obtain ⟨x, hx⟩ : ∃ x, nameJ a = x := ⟨_, rfl⟩
  rw [hx] at hsz hab
  obtain ⟨s1, s2, s3, s4⟩ := str_some hsz
  have NA := Lib.hid hx
  have NB := Lib.hid hab
  have d3 : (a != b) = false := by simpa using k3
  clear k1 k2 k3 hx hab hsz
  obtain ⟨k, hk⟩ : ∃ k, doJ j 1 now = k := ⟨_, rfl⟩
  obtain ⟨eh, heh⟩ : ∃ e, doE j 1 now = e := ⟨_, rfl⟩
  rw [heh] at g1
  have dh : (eh == 0) = false := by rw [beq_eq_false_iff_ne]; exact g1
  have EH := Lib.hid hk
  have EHE := Lib.hid heh
  clear hk heh g1
  have hov := cancel_eight g3
  obtain ⟨kc, hkc⟩ : ∃ k, doJ j 6 now = k := ⟨_, rfl⟩
  have ECE := Lib.hid g3
  have EC := Lib.hid hkc
  have OV := Lib.hid hov
  have RT := Lib.hid g2
  clear hov hkc g2 g3
  clear hb0 hj hn ha hb h40
  go_enter Try.func5, Try.ntmps5
  go_wp2_with fail
  rw [← hW]
  refine (awake11_any H _).mono ?_
  rintro e w1 ⟨rfl, hb⟩
  have HBq := Lib.hid (HB.out.trans (hb.mono HB.out.size))
  clear HB
  have HB := HBq
  clear HBq
  have BXq := Lib.hid (BX.out.next hb)
  clear BX
  have BX := BXq
  clear BXq
  have JAq := Lib.hid (JA.out.next hb)
  clear JA
  have JA := JAq
  clear JAq
  clear hb
  clear hW
  have q0 := BX.out.c0
  have q1 := BX.out.c1
  have q2 := BX.out.c2
  have q3 := BX.out.c3
  have q4 := BX.out.c4
  have q5 := BX.out.c5
  have q6 := BX.out.c6
  have q7 := BX.out.c7
  have q8 := BX.out.c8
  have q9 := BX.out.c9
  have q10 := BX.out.c10
  have q11 := BX.out.c11
  have q12 := BX.out.c12
  go_wp2_with fail
  refine (h11_name H IA.out NA.out).mono ?_
  rintro e w2 ⟨rfl, hb⟩
  have HBq := Lib.hid (HB.out.trans (hb.mono HB.out.size))
  clear HB
  have HB := HBq
  clear HBq
  have BXq := Lib.hid (BX.out.next hb)
  clear BX
  have BX := BXq
  clear BXq
  have JAq := Lib.hid (JA.out.next hb)
  clear JA
  have JA := JAq
  clear JAq
  clear hb
  clear q0 q1 q2 q3 q4 q5 q6 q7 q8 q9 q10 q11 q12
  go_wp2_with fail
  refine (h11_name H IB.out NB.out).mono ?_
  rintro e w3 ⟨rfl, hb⟩
  have HBq := Lib.hid (HB.out.trans (hb.mono HB.out.size))
  clear HB
  have HB := HBq
  clear HBq
  have BXq := Lib.hid (BX.out.next hb)
  clear BX
  have BX := BXq
  clear BXq
  have JAq := Lib.hid (JA.out.next hb)
  clear JA
  have JA := JAq
  clear JAq
  clear hb
  have q0 := BX.out.c0
  have q1 := BX.out.c1
  have q2 := BX.out.c2
  have q3 := BX.out.c3
  have q4 := BX.out.c4
  have q5 := BX.out.c5
  have q6 := BX.out.c6
  have q7 := BX.out.c7
  have q8 := BX.out.c8
  have q9 := BX.out.c9
  have q10 := BX.out.c10
  have q11 := BX.out.c11
  have q12 := BX.out.c12
  go_wp2_with fail
  refine (h11_do H JA.out hmm I1.out IN.out EH.out EHE.out).mono ?_
  rintro e w4 ⟨⟨A1, m1, c1, rfl, hj1⟩, hb⟩
  have HBq := Lib.hid (HB.out.trans (hb.mono HB.out.size))
  clear HB
  have HB := HBq
  clear HBq
  have BXq := Lib.hid (BX.out.next hb)
  clear BX
  have BX := BXq
  clear BXq
  have JAq := Lib.hid (JA.out.next hb)
  clear JA
  have JA := JAq
  clear JAq
  clear hb
  have J1 := Lib.hid hj1
  clear hj1
  clear q0 q1 q2 q3 q4 q5 q6 q7 q8 q9 q10 q11 q12
  have hb := Below.alloc (Below.refl w4.heap.size w4) (Nat.le_refl _) (.cells #[.int .i64 k.id, .int .i64 k.spec.nodes, .int .i64 k.spec.cores, .int .i64 k.spec.gpus, .string k.spec.tag, .bool k.spec.whole, .int .i64 k.spec.long, .int .i64 k.spec.prio, .slice A1 m1 c1, .int .i64 k.state, .int .i64 k.came, .int .i64 k.frm, .int .i64 k.to] 26)
  have B1q := Lib.hid (boxJ_new w4 k A1 m1 c1)
  have HBq := Lib.hid (HB.out.trans (hb.mono HB.out.size))
  clear HB
  have HB := HBq
  clear HBq
  have BXq := Lib.hid (BX.out.next hb)
  clear BX
  have BX := BXq
  clear BXq
  have JAq := Lib.hid (JA.out.next hb)
  clear JA
  have JA := JAq
  clear JAq
  have J1q := Lib.hid (J1.out.next hb)
  clear J1
  have J1 := J1q
  clear J1q
  clear hb
  have B1 := B1q
  clear B1q
  have q0 := BX.out.c0
  have q1 := BX.out.c1
  have q2 := BX.out.c2
  have q3 := BX.out.c3
  have q4 := BX.out.c4
  have q5 := BX.out.c5
  have q6 := BX.out.c6
  have q7 := BX.out.c7
  have q8 := BX.out.c8
  have q9 := BX.out.c9
  have q10 := BX.out.c10
  have q11 := BX.out.c11
  have q12 := BX.out.c12
  go_wp2_with fail
  refine (h11_do H JA.out hmm I6.out IN.out EC.out ECE.out).mono ?_
  rintro e w5 ⟨⟨A5, m5, c5, rfl, hj5⟩, hb⟩
  have HBq := Lib.hid (HB.out.trans (hb.mono HB.out.size))
  clear HB
  have HB := HBq
  clear HBq
  have BXq := Lib.hid (BX.out.next hb)
  clear BX
  have BX := BXq
  clear BXq
  have JAq := Lib.hid (JA.out.next hb)
  clear JA
  have JA := JAq
  clear JAq
  have J1q := Lib.hid (J1.out.next hb)
  clear J1
  have J1 := J1q
  clear J1q
  have B1q := Lib.hid (B1.out.next hb)
  clear B1
  have B1 := B1q
  clear B1q
  clear hb
  have J5 := Lib.hid hj5
  clear hj5
  clear q0 q1 q2 q3 q4 q5 q6 q7 q8 q9 q10 q11 q12
  have hb := Below.alloc (Below.refl w5.heap.size w5) (Nat.le_refl _) (.cells #[.int .i64 kc.id, .int .i64 kc.spec.nodes, .int .i64 kc.spec.cores, .int .i64 kc.spec.gpus, .string kc.spec.tag, .bool kc.spec.whole, .int .i64 kc.spec.long, .int .i64 kc.spec.prio, .slice A5 m5 c5, .int .i64 kc.state, .int .i64 kc.came, .int .i64 kc.frm, .int .i64 kc.to] 26)
  have B5q := Lib.hid (boxJ_new w5 kc A5 m5 c5)
  have HBq := Lib.hid (HB.out.trans (hb.mono HB.out.size))
  clear HB
  have HB := HBq
  clear HBq
  have BXq := Lib.hid (BX.out.next hb)
  clear BX
  have BX := BXq
  clear BXq
  have JAq := Lib.hid (JA.out.next hb)
  clear JA
  have JA := JAq
  clear JAq
  have J1q := Lib.hid (J1.out.next hb)
  clear J1
  have J1 := J1q
  clear J1q
  have B1q := Lib.hid (B1.out.next hb)
  clear B1
  have B1 := B1q
  clear B1q
  have J5q := Lib.hid (J5.out.next hb)
  clear J5
  have J5 := J5q
  clear J5q
  clear hb
  have B5 := B5q
  clear B5q
  have q0 := BX.out.c0
  have q1 := BX.out.c1
  have q2 := BX.out.c2
  have q3 := BX.out.c3
  have q4 := BX.out.c4
  have q5 := BX.out.c5
  have q6 := BX.out.c6
  have q7 := BX.out.c7
  have q8 := BX.out.c8
  have q9 := BX.out.c9
  have q10 := BX.out.c10
  have q11 := BX.out.c11
  have q12 := BX.out.c12
  have r0 := B5.out.c0
  have r1 := B5.out.c1
  have r2 := B5.out.c2
  have r3 := B5.out.c3
  have r4 := B5.out.c4
  have r5 := B5.out.c5
  have r6 := B5.out.c6
  have r7 := B5.out.c7
  have r8 := B5.out.c8
  have r9 := B5.out.c9
  have r10 := B5.out.c10
  have r11 := B5.out.c11
  have r12 := B5.out.c12
  go_wp2_with fail
  refine (h11_right H JA.out hmm RT.out).mono ?_
  rintro e w6 ⟨rfl, hb⟩
  have HBq := Lib.hid (HB.out.trans (hb.mono HB.out.size))
  clear HB
  have HB := HBq
  clear HBq
  have BXq := Lib.hid (BX.out.next hb)
  clear BX
  have BX := BXq
  clear BXq
  have JAq := Lib.hid (JA.out.next hb)
  clear JA
  have JA := JAq
  clear JAq
  have J1q := Lib.hid (J1.out.next hb)
  clear J1
  have J1 := J1q
  clear J1q
  have B1q := Lib.hid (B1.out.next hb)
  clear B1
  have B1 := B1q
  clear B1q
  have J5q := Lib.hid (J5.out.next hb)
  clear J5
  have J5 := J5q
  clear J5q
  have B5q := Lib.hid (B5.out.next hb)
  clear B5
  have B5 := B5q
  clear B5q
  clear hb
  clear q0 q1 q2 q3 q4 q5 q6 q7 q8 q9 q10 q11 q12 r0 r1 r2 r3 r4 r5 r6 r7 r8 r9 r10 r11 r12
  have q0 := BX.out.c0
  have q1 := BX.out.c1
  have q2 := BX.out.c2
  have q3 := BX.out.c3
  have q4 := BX.out.c4
  have q5 := BX.out.c5
  have q6 := BX.out.c6
  have q7 := BX.out.c7
  have q8 := BX.out.c8
  have q9 := BX.out.c9
  have q10 := BX.out.c10
  have q11 := BX.out.c11
  have q12 := BX.out.c12
  have r0 := B5.out.c0
  have r1 := B5.out.c1
  have r2 := B5.out.c2
  have r3 := B5.out.c3
  have r4 := B5.out.c4
  have r5 := B5.out.c5
  have r6 := B5.out.c6
  have r7 := B5.out.c7
  have r8 := B5.out.c8
  have r9 := B5.out.c9
  have r10 := B5.out.c10
  have r11 := B5.out.c11
  have r12 := B5.out.c12
  go_wp2_with fail
  refine (h11_over H IST.out OV.out).mono ?_
  rintro e w7 ⟨rfl, hb⟩
  have HBq := Lib.hid (HB.out.trans (hb.mono HB.out.size))
  clear HB
  have HB := HBq
  clear HBq
  have BXq := Lib.hid (BX.out.next hb)
  clear BX
  have BX := BXq
  clear BXq
  have JAq := Lib.hid (JA.out.next hb)
  clear JA
  have JA := JAq
  clear JAq
  have J1q := Lib.hid (J1.out.next hb)
  clear J1
  have J1 := J1q
  clear J1q
  have B1q := Lib.hid (B1.out.next hb)
  clear B1
  have B1 := B1q
  clear B1q
  have J5q := Lib.hid (J5.out.next hb)
  clear J5
  have J5 := J5q
  clear J5q
  have B5q := Lib.hid (B5.out.next hb)
  clear B5
  have B5 := B5q
  clear B5q
  clear hb
  clear q0 q1 q2 q3 q4 q5 q6 q7 q8 q9 q10 q11 q12 r0 r1 r2 r3 r4 r5 r6 r7 r8 r9 r10 r11 r12
  have q0 := BX.out.c0
  have q1 := BX.out.c1
  have q2 := BX.out.c2
  have q3 := BX.out.c3
  have q4 := BX.out.c4
  have q5 := BX.out.c5
  have q6 := BX.out.c6
  have q7 := BX.out.c7
  have q8 := BX.out.c8
  have q9 := BX.out.c9
  have q10 := BX.out.c10
  have q11 := BX.out.c11
  have q12 := BX.out.c12
  have r0 := B5.out.c0
  have r1 := B5.out.c1
  have r2 := B5.out.c2
  have r3 := B5.out.c3
  have r4 := B5.out.c4
  have r5 := B5.out.c5
  have r6 := B5.out.c6
  have r7 := B5.out.c7
  have r8 := B5.out.c8
  have r9 := B5.out.c9
  have r10 := B5.out.c10
  have r11 := B5.out.c11
  have r12 := B5.out.c12
  go_wp2
  go_ret
  exact ⟨rfl, HB.out⟩

set_option maxRecDepth 100000 in
set_option maxHeartbeats 8000000 in
theorem jobFree_i1c (H : JobOk) (A : Option Addr) (m c : Nat) (j : Jb) (now a b : Int) (w : World) (hj : JAsk w A m c j) (hn : I64 now) (ha : I64 a) (hb : I64 b) (h40 : ¬ 40 < m) (k1 : 0 ≤ a) (k2 : a ≤ 6) (k3 : a = b) (g1 : doE j 1 now ≠ 0) (g2 : rightJ j = true) (g3 : doE j 6 now = 0) :
    Calls Try.prog 5 #[.agg #[.int .i64 j.id, .int .i64 j.spec.nodes, .int .i64 j.spec.cores, .int .i64 j.spec.gpus, .string j.spec.tag, .bool j.spec.whole, .int .i64 j.spec.long, .int .i64 j.spec.prio, .slice A m c, .int .i64 j.state, .int .i64 j.came, .int .i64 j.frm, .int .i64 j.to], .int .i64 now, .int .i64 a, .int .i64 b] w fun e w' => e = .returned (.bool true) ∧ Below w.heap.size w w' := by
  obtain ⟨W, hW⟩ : ∃ W, W = w.alloc (jO j A m c) := ⟨_, rfl⟩
  have BX : Hid (BoxJ W w.heap.size j A m c) := Lib.hid (by rw [hW]; exact boxJ_new w j A m c)
  have hb0 : Below w.heap.size w W := by rw [hW]; exact (Below.refl _ _).alloc (Nat.le_refl _) _
  have HB := Lib.hid hb0
  have JA := Lib.hid (hj.next hb0)
  unfold jO at hW
  have h40d : decide ((40 : Int) < (m : Int)) = false := by simp; omega
  have hmm : m ≤ 100 := by omega
  have HML := Lib.hid hj.reads.1
  have IN := Lib.hid hn
  have IA := Lib.hid ha
  have IB := Lib.hid hb
  have IST := Lib.hid hj.int.2.1
  have I1 : Hid (I64 1) := Lib.hid (by unfold I64; omega)
  have I2 : Hid (I64 2) := Lib.hid (by unfold I64; omega)
  have I6 : Hid (I64 6) := Lib.hid (by unfold I64; omega)
  have d1 : decide (a < 0) = false := decide_eq_false (by omega)
  have d2 : decide (6 < a) = false := decide_eq_false (by omega)
  have hsz := name_in k1 k2
  have hab : nameJ b = nameJ a := by rw [k3]
  obtain ⟨x, hx⟩ : ∃ x, nameJ a = x := ⟨_, rfl⟩
  rw [hx] at hsz hab
  obtain ⟨s1, s2, s3, s4⟩ := str_some hsz
  have NA := Lib.hid hx
  have NB := Lib.hid hab
  have d3 : (a != b) = false := by simpa using k3
  clear k1 k2 k3 hx hab hsz
  obtain ⟨k, hk⟩ : ∃ k, doJ j 1 now = k := ⟨_, rfl⟩
  obtain ⟨eh, heh⟩ : ∃ e, doE j 1 now = e := ⟨_, rfl⟩
  rw [heh] at g1
  have dh : (eh == 0) = false := by rw [beq_eq_false_iff_ne]; exact g1
  have EH := Lib.hid hk
  have EHE := Lib.hid heh
  clear hk heh g1
  obtain ⟨hov, hcd⟩ := cancel_does g3
  have ECE := Lib.hid g3
  have EC := Lib.hid hcd
  have OV := Lib.hid hov
  have RT := Lib.hid g2
  clear hov hcd g2 g3
  clear hb0 hj hn ha hb h40
  go_enter Try.func5, Try.ntmps5
  go_wp2_with fail
  rw [← hW]
  refine (awake11_any H _).mono ?_
  rintro e w1 ⟨rfl, hb⟩
  have HBq := Lib.hid (HB.out.trans (hb.mono HB.out.size))
  clear HB
  have HB := HBq
  clear HBq
  have BXq := Lib.hid (BX.out.next hb)
  clear BX
  have BX := BXq
  clear BXq
  have JAq := Lib.hid (JA.out.next hb)
  clear JA
  have JA := JAq
  clear JAq
  clear hb
  clear hW
  have q0 := BX.out.c0
  have q1 := BX.out.c1
  have q2 := BX.out.c2
  have q3 := BX.out.c3
  have q4 := BX.out.c4
  have q5 := BX.out.c5
  have q6 := BX.out.c6
  have q7 := BX.out.c7
  have q8 := BX.out.c8
  have q9 := BX.out.c9
  have q10 := BX.out.c10
  have q11 := BX.out.c11
  have q12 := BX.out.c12
  go_wp2_with fail
  refine (h11_name H IA.out NA.out).mono ?_
  rintro e w2 ⟨rfl, hb⟩
  have HBq := Lib.hid (HB.out.trans (hb.mono HB.out.size))
  clear HB
  have HB := HBq
  clear HBq
  have BXq := Lib.hid (BX.out.next hb)
  clear BX
  have BX := BXq
  clear BXq
  have JAq := Lib.hid (JA.out.next hb)
  clear JA
  have JA := JAq
  clear JAq
  clear hb
  clear q0 q1 q2 q3 q4 q5 q6 q7 q8 q9 q10 q11 q12
  go_wp2_with fail
  refine (h11_name H IB.out NB.out).mono ?_
  rintro e w3 ⟨rfl, hb⟩
  have HBq := Lib.hid (HB.out.trans (hb.mono HB.out.size))
  clear HB
  have HB := HBq
  clear HBq
  have BXq := Lib.hid (BX.out.next hb)
  clear BX
  have BX := BXq
  clear BXq
  have JAq := Lib.hid (JA.out.next hb)
  clear JA
  have JA := JAq
  clear JAq
  clear hb
  have q0 := BX.out.c0
  have q1 := BX.out.c1
  have q2 := BX.out.c2
  have q3 := BX.out.c3
  have q4 := BX.out.c4
  have q5 := BX.out.c5
  have q6 := BX.out.c6
  have q7 := BX.out.c7
  have q8 := BX.out.c8
  have q9 := BX.out.c9
  have q10 := BX.out.c10
  have q11 := BX.out.c11
  have q12 := BX.out.c12
  go_wp2_with fail
  refine (h11_do H JA.out hmm I1.out IN.out EH.out EHE.out).mono ?_
  rintro e w4 ⟨⟨A1, m1, c1, rfl, hj1⟩, hb⟩
  have HBq := Lib.hid (HB.out.trans (hb.mono HB.out.size))
  clear HB
  have HB := HBq
  clear HBq
  have BXq := Lib.hid (BX.out.next hb)
  clear BX
  have BX := BXq
  clear BXq
  have JAq := Lib.hid (JA.out.next hb)
  clear JA
  have JA := JAq
  clear JAq
  clear hb
  have J1 := Lib.hid hj1
  clear hj1
  clear q0 q1 q2 q3 q4 q5 q6 q7 q8 q9 q10 q11 q12
  have hb := Below.alloc (Below.refl w4.heap.size w4) (Nat.le_refl _) (.cells #[.int .i64 k.id, .int .i64 k.spec.nodes, .int .i64 k.spec.cores, .int .i64 k.spec.gpus, .string k.spec.tag, .bool k.spec.whole, .int .i64 k.spec.long, .int .i64 k.spec.prio, .slice A1 m1 c1, .int .i64 k.state, .int .i64 k.came, .int .i64 k.frm, .int .i64 k.to] 26)
  have B1q := Lib.hid (boxJ_new w4 k A1 m1 c1)
  have HBq := Lib.hid (HB.out.trans (hb.mono HB.out.size))
  clear HB
  have HB := HBq
  clear HBq
  have BXq := Lib.hid (BX.out.next hb)
  clear BX
  have BX := BXq
  clear BXq
  have JAq := Lib.hid (JA.out.next hb)
  clear JA
  have JA := JAq
  clear JAq
  have J1q := Lib.hid (J1.out.next hb)
  clear J1
  have J1 := J1q
  clear J1q
  clear hb
  have B1 := B1q
  clear B1q
  have q0 := BX.out.c0
  have q1 := BX.out.c1
  have q2 := BX.out.c2
  have q3 := BX.out.c3
  have q4 := BX.out.c4
  have q5 := BX.out.c5
  have q6 := BX.out.c6
  have q7 := BX.out.c7
  have q8 := BX.out.c8
  have q9 := BX.out.c9
  have q10 := BX.out.c10
  have q11 := BX.out.c11
  have q12 := BX.out.c12
  go_wp2_with fail
  refine (h11_do H JA.out hmm I6.out IN.out EC.out ECE.out).mono ?_
  rintro e w5 ⟨⟨A5, m5, c5, rfl, hj5⟩, hb⟩
  have HBq := Lib.hid (HB.out.trans (hb.mono HB.out.size))
  clear HB
  have HB := HBq
  clear HBq
  have BXq := Lib.hid (BX.out.next hb)
  clear BX
  have BX := BXq
  clear BXq
  have JAq := Lib.hid (JA.out.next hb)
  clear JA
  have JA := JAq
  clear JAq
  have J1q := Lib.hid (J1.out.next hb)
  clear J1
  have J1 := J1q
  clear J1q
  have B1q := Lib.hid (B1.out.next hb)
  clear B1
  have B1 := B1q
  clear B1q
  clear hb
  have J5 := Lib.hid hj5
  clear hj5
  clear q0 q1 q2 q3 q4 q5 q6 q7 q8 q9 q10 q11 q12
  have hb := Below.alloc (Below.refl w5.heap.size w5) (Nat.le_refl _) (.cells #[.int .i64 j.id, .int .i64 j.spec.nodes, .int .i64 j.spec.cores, .int .i64 j.spec.gpus, .string j.spec.tag, .bool j.spec.whole, .int .i64 j.spec.long, .int .i64 j.spec.prio, .slice A5 m5 c5, .int .i64 5, .int .i64 j.came, .int .i64 j.frm, .int .i64 now] 26)
  have B5q := Lib.hid (boxJ_new w5 ⟨j.id, j.spec, j.needs, 5, j.came, j.frm, now⟩ A5 m5 c5)
  have HBq := Lib.hid (HB.out.trans (hb.mono HB.out.size))
  clear HB
  have HB := HBq
  clear HBq
  have BXq := Lib.hid (BX.out.next hb)
  clear BX
  have BX := BXq
  clear BXq
  have JAq := Lib.hid (JA.out.next hb)
  clear JA
  have JA := JAq
  clear JAq
  have J1q := Lib.hid (J1.out.next hb)
  clear J1
  have J1 := J1q
  clear J1q
  have B1q := Lib.hid (B1.out.next hb)
  clear B1
  have B1 := B1q
  clear B1q
  have J5q := Lib.hid (J5.out.next hb)
  clear J5
  have J5 := J5q
  clear J5q
  clear hb
  have B5 := B5q
  clear B5q
  have q0 := BX.out.c0
  have q1 := BX.out.c1
  have q2 := BX.out.c2
  have q3 := BX.out.c3
  have q4 := BX.out.c4
  have q5 := BX.out.c5
  have q6 := BX.out.c6
  have q7 := BX.out.c7
  have q8 := BX.out.c8
  have q9 := BX.out.c9
  have q10 := BX.out.c10
  have q11 := BX.out.c11
  have q12 := BX.out.c12
  have r0 := B5.out.c0
  have r1 := B5.out.c1
  have r2 := B5.out.c2
  have r3 := B5.out.c3
  have r4 := B5.out.c4
  have r5 := B5.out.c5
  have r6 := B5.out.c6
  have r7 := B5.out.c7
  have r8 := B5.out.c8
  have r9 := B5.out.c9
  have r10 := B5.out.c10
  have r11 := B5.out.c11
  have r12 := B5.out.c12
  simp only at r9 r11 r12
  go_wp2_with fail
  refine (h11_right H JA.out hmm RT.out).mono ?_
  rintro e w6 ⟨rfl, hb⟩
  have HBq := Lib.hid (HB.out.trans (hb.mono HB.out.size))
  clear HB
  have HB := HBq
  clear HBq
  have BXq := Lib.hid (BX.out.next hb)
  clear BX
  have BX := BXq
  clear BXq
  have JAq := Lib.hid (JA.out.next hb)
  clear JA
  have JA := JAq
  clear JAq
  have J1q := Lib.hid (J1.out.next hb)
  clear J1
  have J1 := J1q
  clear J1q
  have B1q := Lib.hid (B1.out.next hb)
  clear B1
  have B1 := B1q
  clear B1q
  have J5q := Lib.hid (J5.out.next hb)
  clear J5
  have J5 := J5q
  clear J5q
  have B5q := Lib.hid (B5.out.next hb)
  clear B5
  have B5 := B5q
  clear B5q
  clear hb
  clear q0 q1 q2 q3 q4 q5 q6 q7 q8 q9 q10 q11 q12 r0 r1 r2 r3 r4 r5 r6 r7 r8 r9 r10 r11 r12
  have q0 := BX.out.c0
  have q1 := BX.out.c1
  have q2 := BX.out.c2
  have q3 := BX.out.c3
  have q4 := BX.out.c4
  have q5 := BX.out.c5
  have q6 := BX.out.c6
  have q7 := BX.out.c7
  have q8 := BX.out.c8
  have q9 := BX.out.c9
  have q10 := BX.out.c10
  have q11 := BX.out.c11
  have q12 := BX.out.c12
  have r0 := B5.out.c0
  have r1 := B5.out.c1
  have r2 := B5.out.c2
  have r3 := B5.out.c3
  have r4 := B5.out.c4
  have r5 := B5.out.c5
  have r6 := B5.out.c6
  have r7 := B5.out.c7
  have r8 := B5.out.c8
  have r9 := B5.out.c9
  have r10 := B5.out.c10
  have r11 := B5.out.c11
  have r12 := B5.out.c12
  simp only at r9 r11 r12
  go_wp2_with fail
  refine (h11_over H IST.out OV.out).mono ?_
  rintro e w7 ⟨rfl, hb⟩
  have HBq := Lib.hid (HB.out.trans (hb.mono HB.out.size))
  clear HB
  have HB := HBq
  clear HBq
  have BXq := Lib.hid (BX.out.next hb)
  clear BX
  have BX := BXq
  clear BXq
  have JAq := Lib.hid (JA.out.next hb)
  clear JA
  have JA := JAq
  clear JAq
  have J1q := Lib.hid (J1.out.next hb)
  clear J1
  have J1 := J1q
  clear J1q
  have B1q := Lib.hid (B1.out.next hb)
  clear B1
  have B1 := B1q
  clear B1q
  have J5q := Lib.hid (J5.out.next hb)
  clear J5
  have J5 := J5q
  clear J5q
  have B5q := Lib.hid (B5.out.next hb)
  clear B5
  have B5 := B5q
  clear B5q
  clear hb
  clear q0 q1 q2 q3 q4 q5 q6 q7 q8 q9 q10 q11 q12 r0 r1 r2 r3 r4 r5 r6 r7 r8 r9 r10 r11 r12
  have q0 := BX.out.c0
  have q1 := BX.out.c1
  have q2 := BX.out.c2
  have q3 := BX.out.c3
  have q4 := BX.out.c4
  have q5 := BX.out.c5
  have q6 := BX.out.c6
  have q7 := BX.out.c7
  have q8 := BX.out.c8
  have q9 := BX.out.c9
  have q10 := BX.out.c10
  have q11 := BX.out.c11
  have q12 := BX.out.c12
  have r0 := B5.out.c0
  have r1 := B5.out.c1
  have r2 := B5.out.c2
  have r3 := B5.out.c3
  have r4 := B5.out.c4
  have r5 := B5.out.c5
  have r6 := B5.out.c6
  have r7 := B5.out.c7
  have r8 := B5.out.c8
  have r9 := B5.out.c9
  have r10 := B5.out.c10
  have r11 := B5.out.c11
  have r12 := B5.out.c12
  simp only at r9 r11 r12
  go_wp2
  go_ret
  exact ⟨rfl, HB.out⟩

set_option maxRecDepth 100000 in
set_option maxHeartbeats 8000000 in
theorem jobFree_i2h (H : JobOk) (A : Option Addr) (m c : Nat) (j : Jb) (now a b : Int) (w : World) (hj : JAsk w A m c j) (hn : I64 now) (ha : I64 a) (hb : I64 b) (h40 : ¬ 40 < m) (k1 : 0 ≤ a) (k2 : a ≤ 6) (k3 : ¬ a = b) (g1 : doE j 1 now = 0) :
    Calls Try.prog 5 #[.agg #[.int .i64 j.id, .int .i64 j.spec.nodes, .int .i64 j.spec.cores, .int .i64 j.spec.gpus, .string j.spec.tag, .bool j.spec.whole, .int .i64 j.spec.long, .int .i64 j.spec.prio, .slice A m c, .int .i64 j.state, .int .i64 j.came, .int .i64 j.frm, .int .i64 j.to], .int .i64 now, .int .i64 a, .int .i64 b] w fun e w' => e = .returned (.bool true) ∧ Below w.heap.size w w' := by
  obtain ⟨W, hW⟩ : ∃ W, W = w.alloc (jO j A m c) := ⟨_, rfl⟩
  have BX : Hid (BoxJ W w.heap.size j A m c) := Lib.hid (by rw [hW]; exact boxJ_new w j A m c)
  have hb0 : Below w.heap.size w W := by rw [hW]; exact (Below.refl _ _).alloc (Nat.le_refl _) _
  have HB := Lib.hid hb0
  have JA := Lib.hid (hj.next hb0)
  unfold jO at hW
  have h40d : decide ((40 : Int) < (m : Int)) = false := by simp; omega
  have hmm : m ≤ 100 := by omega
  have HML := Lib.hid hj.reads.1
  have IN := Lib.hid hn
  have IA := Lib.hid ha
  have IB := Lib.hid hb
  have IST := Lib.hid hj.int.2.1
  have I1 : Hid (I64 1) := Lib.hid (by unfold I64; omega)
  have I2 : Hid (I64 2) := Lib.hid (by unfold I64; omega)
  have I6 : Hid (I64 6) := Lib.hid (by unfold I64; omega)
  have d1 : decide (a < 0) = false := decide_eq_false (by omega)
  have d2 : decide (6 < a) = false := decide_eq_false (by omega)
  have hsz := name_in k1 k2
  have hne : nameJ a ≠ nameJ b := fun e => k3 (name_one k1 k2 e)
  obtain ⟨x, hx⟩ : ∃ x, nameJ a = x := ⟨_, rfl⟩
  obtain ⟨y, hy⟩ : ∃ y, nameJ b = y := ⟨_, rfl⟩
  rw [hx] at hsz
  rw [hx, hy] at hne
  obtain ⟨s1, s2, s3, s4⟩ := str_some hsz
  obtain ⟨s5, s6, s7⟩ := str_apart hne
  have NA := Lib.hid hx
  have NB := Lib.hid hy
  clear k1 k2 k3 hx hy hsz hne
  obtain ⟨hf1, hf2⟩ := hold_free g1
  have hcz := hold_cancel g1
  obtain ⟨hov, hcd⟩ := cancel_does hcz
  have hrt : rightJ j = true := decide_eq_true (do_ok.1 g1).1.1
  obtain ⟨k, hk⟩ : ∃ k, doJ j 1 now = k := ⟨_, rfl⟩
  rw [hk] at hf1 hf2
  have EH := Lib.hid hk
  have EHE := Lib.hid g1
  have EF := Lib.hid hf2
  have EFE := Lib.hid hf1
  have EC := Lib.hid hcd
  have ECE := Lib.hid hcz
  have OV := Lib.hid hov
  have RT := Lib.hid hrt
  clear hf1 hf2 hcz hov hcd hrt hk g1
  clear hb0 hj hn ha hb h40
  go_enter Try.func5, Try.ntmps5
  go_wp2_with fail
  rw [← hW]
  refine (awake11_any H _).mono ?_
  rintro e w1 ⟨rfl, hb⟩
  have HBq := Lib.hid (HB.out.trans (hb.mono HB.out.size))
  clear HB
  have HB := HBq
  clear HBq
  have BXq := Lib.hid (BX.out.next hb)
  clear BX
  have BX := BXq
  clear BXq
  have JAq := Lib.hid (JA.out.next hb)
  clear JA
  have JA := JAq
  clear JAq
  clear hb
  clear hW
  have q0 := BX.out.c0
  have q1 := BX.out.c1
  have q2 := BX.out.c2
  have q3 := BX.out.c3
  have q4 := BX.out.c4
  have q5 := BX.out.c5
  have q6 := BX.out.c6
  have q7 := BX.out.c7
  have q8 := BX.out.c8
  have q9 := BX.out.c9
  have q10 := BX.out.c10
  have q11 := BX.out.c11
  have q12 := BX.out.c12
  go_wp2_with fail
  refine (h11_name H IA.out NA.out).mono ?_
  rintro e w2 ⟨rfl, hb⟩
  have HBq := Lib.hid (HB.out.trans (hb.mono HB.out.size))
  clear HB
  have HB := HBq
  clear HBq
  have BXq := Lib.hid (BX.out.next hb)
  clear BX
  have BX := BXq
  clear BXq
  have JAq := Lib.hid (JA.out.next hb)
  clear JA
  have JA := JAq
  clear JAq
  clear hb
  clear q0 q1 q2 q3 q4 q5 q6 q7 q8 q9 q10 q11 q12
  go_wp2_with fail
  refine (h11_name H IB.out NB.out).mono ?_
  rintro e w3 ⟨rfl, hb⟩
  have HBq := Lib.hid (HB.out.trans (hb.mono HB.out.size))
  clear HB
  have HB := HBq
  clear HBq
  have BXq := Lib.hid (BX.out.next hb)
  clear BX
  have BX := BXq
  clear BXq
  have JAq := Lib.hid (JA.out.next hb)
  clear JA
  have JA := JAq
  clear JAq
  clear hb
  have q0 := BX.out.c0
  have q1 := BX.out.c1
  have q2 := BX.out.c2
  have q3 := BX.out.c3
  have q4 := BX.out.c4
  have q5 := BX.out.c5
  have q6 := BX.out.c6
  have q7 := BX.out.c7
  have q8 := BX.out.c8
  have q9 := BX.out.c9
  have q10 := BX.out.c10
  have q11 := BX.out.c11
  have q12 := BX.out.c12
  go_wp2_with fail
  refine (h11_do H JA.out hmm I1.out IN.out EH.out EHE.out).mono ?_
  rintro e w4 ⟨⟨A1, m1, c1, rfl, hj1⟩, hb⟩
  have HBq := Lib.hid (HB.out.trans (hb.mono HB.out.size))
  clear HB
  have HB := HBq
  clear HBq
  have BXq := Lib.hid (BX.out.next hb)
  clear BX
  have BX := BXq
  clear BXq
  have JAq := Lib.hid (JA.out.next hb)
  clear JA
  have JA := JAq
  clear JAq
  clear hb
  have J1 := Lib.hid hj1
  clear hj1
  clear q0 q1 q2 q3 q4 q5 q6 q7 q8 q9 q10 q11 q12
  have hb := Below.alloc (Below.refl w4.heap.size w4) (Nat.le_refl _) (.cells #[.int .i64 k.id, .int .i64 k.spec.nodes, .int .i64 k.spec.cores, .int .i64 k.spec.gpus, .string k.spec.tag, .bool k.spec.whole, .int .i64 k.spec.long, .int .i64 k.spec.prio, .slice A1 m1 c1, .int .i64 k.state, .int .i64 k.came, .int .i64 k.frm, .int .i64 k.to] 26)
  have B1q := Lib.hid (boxJ_new w4 k A1 m1 c1)
  have HBq := Lib.hid (HB.out.trans (hb.mono HB.out.size))
  clear HB
  have HB := HBq
  clear HBq
  have BXq := Lib.hid (BX.out.next hb)
  clear BX
  have BX := BXq
  clear BXq
  have JAq := Lib.hid (JA.out.next hb)
  clear JA
  have JA := JAq
  clear JAq
  have J1q := Lib.hid (J1.out.next hb)
  clear J1
  have J1 := J1q
  clear J1q
  clear hb
  have B1 := B1q
  clear B1q
  have q0 := BX.out.c0
  have q1 := BX.out.c1
  have q2 := BX.out.c2
  have q3 := BX.out.c3
  have q4 := BX.out.c4
  have q5 := BX.out.c5
  have q6 := BX.out.c6
  have q7 := BX.out.c7
  have q8 := BX.out.c8
  have q9 := BX.out.c9
  have q10 := BX.out.c10
  have q11 := BX.out.c11
  have q12 := BX.out.c12
  have hk100 : m1 ≤ 100 := by
    have h1 := J1.out.reads.1
    rw [← h1, ← EH.out, doJ_ok EHE.out]
    show j.needs.length ≤ 100
    rw [HML.out]; exact hmm
  have r0 := B1.out.c0
  have r1 := B1.out.c1
  have r2 := B1.out.c2
  have r3 := B1.out.c3
  have r4 := B1.out.c4
  have r5 := B1.out.c5
  have r6 := B1.out.c6
  have r7 := B1.out.c7
  have r8 := B1.out.c8
  have r9 := B1.out.c9
  have r10 := B1.out.c10
  have r11 := B1.out.c11
  have r12 := B1.out.c12
  go_wp2_with fail
  refine (h11_do H J1.out hk100 I2.out IN.out EF.out EFE.out).mono ?_
  rintro e w5 ⟨⟨A2, m2, c2, rfl, hj2⟩, hb⟩
  have HBq := Lib.hid (HB.out.trans (hb.mono HB.out.size))
  clear HB
  have HB := HBq
  clear HBq
  have BXq := Lib.hid (BX.out.next hb)
  clear BX
  have BX := BXq
  clear BXq
  have JAq := Lib.hid (JA.out.next hb)
  clear JA
  have JA := JAq
  clear JAq
  have J1q := Lib.hid (J1.out.next hb)
  clear J1
  have J1 := J1q
  clear J1q
  have B1q := Lib.hid (B1.out.next hb)
  clear B1
  have B1 := B1q
  clear B1q
  clear hb
  have J2 := Lib.hid hj2
  clear hj2
  clear q0 q1 q2 q3 q4 q5 q6 q7 q8 q9 q10 q11 q12 r0 r1 r2 r3 r4 r5 r6 r7 r8 r9 r10 r11 r12
  clear B1
  clear J1
  have hb := Below.alloc (Below.refl w5.heap.size w5) (Nat.le_refl _) (.cells #[.int .i64 j.id, .int .i64 j.spec.nodes, .int .i64 j.spec.cores, .int .i64 j.spec.gpus, .string j.spec.tag, .bool j.spec.whole, .int .i64 j.spec.long, .int .i64 j.spec.prio, .slice A2 m2 c2, .int .i64 j.state, .int .i64 j.came, .int .i64 j.frm, .int .i64 j.to] 26)
  have B2q := Lib.hid (boxJ_new w5 j A2 m2 c2)
  have HBq := Lib.hid (HB.out.trans (hb.mono HB.out.size))
  clear HB
  have HB := HBq
  clear HBq
  have BXq := Lib.hid (BX.out.next hb)
  clear BX
  have BX := BXq
  clear BXq
  have JAq := Lib.hid (JA.out.next hb)
  clear JA
  have JA := JAq
  clear JAq
  have J2q := Lib.hid (J2.out.next hb)
  clear J2
  have J2 := J2q
  clear J2q
  clear hb
  have B2 := B2q
  clear B2q
  have q0 := BX.out.c0
  have q1 := BX.out.c1
  have q2 := BX.out.c2
  have q3 := BX.out.c3
  have q4 := BX.out.c4
  have q5 := BX.out.c5
  have q6 := BX.out.c6
  have q7 := BX.out.c7
  have q8 := BX.out.c8
  have q9 := BX.out.c9
  have q10 := BX.out.c10
  have q11 := BX.out.c11
  have q12 := BX.out.c12
  have r0 := B2.out.c0
  have r1 := B2.out.c1
  have r2 := B2.out.c2
  have r3 := B2.out.c3
  have r4 := B2.out.c4
  have r5 := B2.out.c5
  have r6 := B2.out.c6
  have r7 := B2.out.c7
  have r8 := B2.out.c8
  have r9 := B2.out.c9
  have r10 := B2.out.c10
  have r11 := B2.out.c11
  have r12 := B2.out.c12
  go_wp2_with fail
  refine (refSameJ_b J2.out JA.out (sameJ_iff.2 rfl)).mono ?_
  rintro e w6 ⟨rfl, hb⟩
  have HBq := Lib.hid (HB.out.trans (hb.mono HB.out.size))
  clear HB
  have HB := HBq
  clear HBq
  have BXq := Lib.hid (BX.out.next hb)
  clear BX
  have BX := BXq
  clear BXq
  have JAq := Lib.hid (JA.out.next hb)
  clear JA
  have JA := JAq
  clear JAq
  have J2q := Lib.hid (J2.out.next hb)
  clear J2
  have J2 := J2q
  clear J2q
  have B2q := Lib.hid (B2.out.next hb)
  clear B2
  have B2 := B2q
  clear B2q
  clear hb
  clear q0 q1 q2 q3 q4 q5 q6 q7 q8 q9 q10 q11 q12 r0 r1 r2 r3 r4 r5 r6 r7 r8 r9 r10 r11 r12
  have q0 := BX.out.c0
  have q1 := BX.out.c1
  have q2 := BX.out.c2
  have q3 := BX.out.c3
  have q4 := BX.out.c4
  have q5 := BX.out.c5
  have q6 := BX.out.c6
  have q7 := BX.out.c7
  have q8 := BX.out.c8
  have q9 := BX.out.c9
  have q10 := BX.out.c10
  have q11 := BX.out.c11
  have q12 := BX.out.c12
  clear B2
  clear J2
  go_wp2_with fail
  refine (h11_do H JA.out hmm I6.out IN.out EC.out ECE.out).mono ?_
  rintro e w7 ⟨⟨A5, m5, c5, rfl, hj5⟩, hb⟩
  have HBq := Lib.hid (HB.out.trans (hb.mono HB.out.size))
  clear HB
  have HB := HBq
  clear HBq
  have BXq := Lib.hid (BX.out.next hb)
  clear BX
  have BX := BXq
  clear BXq
  have JAq := Lib.hid (JA.out.next hb)
  clear JA
  have JA := JAq
  clear JAq
  clear hb
  have J5 := Lib.hid hj5
  clear hj5
  clear q0 q1 q2 q3 q4 q5 q6 q7 q8 q9 q10 q11 q12
  have hb := Below.alloc (Below.refl w7.heap.size w7) (Nat.le_refl _) (.cells #[.int .i64 j.id, .int .i64 j.spec.nodes, .int .i64 j.spec.cores, .int .i64 j.spec.gpus, .string j.spec.tag, .bool j.spec.whole, .int .i64 j.spec.long, .int .i64 j.spec.prio, .slice A5 m5 c5, .int .i64 5, .int .i64 j.came, .int .i64 j.frm, .int .i64 now] 26)
  have B5q := Lib.hid (boxJ_new w7 ⟨j.id, j.spec, j.needs, 5, j.came, j.frm, now⟩ A5 m5 c5)
  have HBq := Lib.hid (HB.out.trans (hb.mono HB.out.size))
  clear HB
  have HB := HBq
  clear HBq
  have BXq := Lib.hid (BX.out.next hb)
  clear BX
  have BX := BXq
  clear BXq
  have JAq := Lib.hid (JA.out.next hb)
  clear JA
  have JA := JAq
  clear JAq
  have J5q := Lib.hid (J5.out.next hb)
  clear J5
  have J5 := J5q
  clear J5q
  clear hb
  have B5 := B5q
  clear B5q
  have q0 := BX.out.c0
  have q1 := BX.out.c1
  have q2 := BX.out.c2
  have q3 := BX.out.c3
  have q4 := BX.out.c4
  have q5 := BX.out.c5
  have q6 := BX.out.c6
  have q7 := BX.out.c7
  have q8 := BX.out.c8
  have q9 := BX.out.c9
  have q10 := BX.out.c10
  have q11 := BX.out.c11
  have q12 := BX.out.c12
  have r0 := B5.out.c0
  have r1 := B5.out.c1
  have r2 := B5.out.c2
  have r3 := B5.out.c3
  have r4 := B5.out.c4
  have r5 := B5.out.c5
  have r6 := B5.out.c6
  have r7 := B5.out.c7
  have r8 := B5.out.c8
  have r9 := B5.out.c9
  have r10 := B5.out.c10
  have r11 := B5.out.c11
  have r12 := B5.out.c12
  simp only at r9 r11 r12
  go_wp2_with fail
  refine (h11_right H JA.out hmm RT.out).mono ?_
  rintro e w8 ⟨rfl, hb⟩
  have HBq := Lib.hid (HB.out.trans (hb.mono HB.out.size))
  clear HB
  have HB := HBq
  clear HBq
  have BXq := Lib.hid (BX.out.next hb)
  clear BX
  have BX := BXq
  clear BXq
  have JAq := Lib.hid (JA.out.next hb)
  clear JA
  have JA := JAq
  clear JAq
  have J5q := Lib.hid (J5.out.next hb)
  clear J5
  have J5 := J5q
  clear J5q
  have B5q := Lib.hid (B5.out.next hb)
  clear B5
  have B5 := B5q
  clear B5q
  clear hb
  clear q0 q1 q2 q3 q4 q5 q6 q7 q8 q9 q10 q11 q12 r0 r1 r2 r3 r4 r5 r6 r7 r8 r9 r10 r11 r12
  have q0 := BX.out.c0
  have q1 := BX.out.c1
  have q2 := BX.out.c2
  have q3 := BX.out.c3
  have q4 := BX.out.c4
  have q5 := BX.out.c5
  have q6 := BX.out.c6
  have q7 := BX.out.c7
  have q8 := BX.out.c8
  have q9 := BX.out.c9
  have q10 := BX.out.c10
  have q11 := BX.out.c11
  have q12 := BX.out.c12
  have r0 := B5.out.c0
  have r1 := B5.out.c1
  have r2 := B5.out.c2
  have r3 := B5.out.c3
  have r4 := B5.out.c4
  have r5 := B5.out.c5
  have r6 := B5.out.c6
  have r7 := B5.out.c7
  have r8 := B5.out.c8
  have r9 := B5.out.c9
  have r10 := B5.out.c10
  have r11 := B5.out.c11
  have r12 := B5.out.c12
  simp only at r9 r11 r12
  go_wp2_with fail
  refine (h11_over H IST.out OV.out).mono ?_
  rintro e w9 ⟨rfl, hb⟩
  have HBq := Lib.hid (HB.out.trans (hb.mono HB.out.size))
  clear HB
  have HB := HBq
  clear HBq
  have BXq := Lib.hid (BX.out.next hb)
  clear BX
  have BX := BXq
  clear BXq
  have JAq := Lib.hid (JA.out.next hb)
  clear JA
  have JA := JAq
  clear JAq
  have J5q := Lib.hid (J5.out.next hb)
  clear J5
  have J5 := J5q
  clear J5q
  have B5q := Lib.hid (B5.out.next hb)
  clear B5
  have B5 := B5q
  clear B5q
  clear hb
  clear q0 q1 q2 q3 q4 q5 q6 q7 q8 q9 q10 q11 q12 r0 r1 r2 r3 r4 r5 r6 r7 r8 r9 r10 r11 r12
  have q0 := BX.out.c0
  have q1 := BX.out.c1
  have q2 := BX.out.c2
  have q3 := BX.out.c3
  have q4 := BX.out.c4
  have q5 := BX.out.c5
  have q6 := BX.out.c6
  have q7 := BX.out.c7
  have q8 := BX.out.c8
  have q9 := BX.out.c9
  have q10 := BX.out.c10
  have q11 := BX.out.c11
  have q12 := BX.out.c12
  have r0 := B5.out.c0
  have r1 := B5.out.c1
  have r2 := B5.out.c2
  have r3 := B5.out.c3
  have r4 := B5.out.c4
  have r5 := B5.out.c5
  have r6 := B5.out.c6
  have r7 := B5.out.c7
  have r8 := B5.out.c8
  have r9 := B5.out.c9
  have r10 := B5.out.c10
  have r11 := B5.out.c11
  have r12 := B5.out.c12
  simp only at r9 r11 r12
  go_wp2
  go_ret
  exact ⟨rfl, HB.out⟩

set_option maxRecDepth 100000 in
set_option maxHeartbeats 8000000 in
theorem jobFree_i2n (H : JobOk) (A : Option Addr) (m c : Nat) (j : Jb) (now a b : Int) (w : World) (hj : JAsk w A m c j) (hn : I64 now) (ha : I64 a) (hb : I64 b) (h40 : ¬ 40 < m) (k1 : 0 ≤ a) (k2 : a ≤ 6) (k3 : ¬ a = b) (g1 : doE j 1 now ≠ 0) (g2 : rightJ j = false) :
    Calls Try.prog 5 #[.agg #[.int .i64 j.id, .int .i64 j.spec.nodes, .int .i64 j.spec.cores, .int .i64 j.spec.gpus, .string j.spec.tag, .bool j.spec.whole, .int .i64 j.spec.long, .int .i64 j.spec.prio, .slice A m c, .int .i64 j.state, .int .i64 j.came, .int .i64 j.frm, .int .i64 j.to], .int .i64 now, .int .i64 a, .int .i64 b] w fun e w' => e = .returned (.bool true) ∧ Below w.heap.size w w' := by
  obtain ⟨W, hW⟩ : ∃ W, W = w.alloc (jO j A m c) := ⟨_, rfl⟩
  have BX : Hid (BoxJ W w.heap.size j A m c) := Lib.hid (by rw [hW]; exact boxJ_new w j A m c)
  have hb0 : Below w.heap.size w W := by rw [hW]; exact (Below.refl _ _).alloc (Nat.le_refl _) _
  have HB := Lib.hid hb0
  have JA := Lib.hid (hj.next hb0)
  unfold jO at hW
  have h40d : decide ((40 : Int) < (m : Int)) = false := by simp; omega
  have hmm : m ≤ 100 := by omega
  have HML := Lib.hid hj.reads.1
  have IN := Lib.hid hn
  have IA := Lib.hid ha
  have IB := Lib.hid hb
  have IST := Lib.hid hj.int.2.1
  have I1 : Hid (I64 1) := Lib.hid (by unfold I64; omega)
  have I2 : Hid (I64 2) := Lib.hid (by unfold I64; omega)
  have I6 : Hid (I64 6) := Lib.hid (by unfold I64; omega)
  have d1 : decide (a < 0) = false := decide_eq_false (by omega)
  have d2 : decide (6 < a) = false := decide_eq_false (by omega)
  have hsz := name_in k1 k2
  have hne : nameJ a ≠ nameJ b := fun e => k3 (name_one k1 k2 e)
  obtain ⟨x, hx⟩ : ∃ x, nameJ a = x := ⟨_, rfl⟩
  obtain ⟨y, hy⟩ : ∃ y, nameJ b = y := ⟨_, rfl⟩
  rw [hx] at hsz
  rw [hx, hy] at hne
  obtain ⟨s1, s2, s3, s4⟩ := str_some hsz
  obtain ⟨s5, s6, s7⟩ := str_apart hne
  have NA := Lib.hid hx
  have NB := Lib.hid hy
  clear k1 k2 k3 hx hy hsz hne
  obtain ⟨k, hk⟩ : ∃ k, doJ j 1 now = k := ⟨_, rfl⟩
  obtain ⟨eh, heh⟩ : ∃ e, doE j 1 now = e := ⟨_, rfl⟩
  rw [heh] at g1
  have dh : (eh == 0) = false := by rw [beq_eq_false_iff_ne]; exact g1
  have EH := Lib.hid hk
  have EHE := Lib.hid heh
  clear hk heh g1
  obtain ⟨hc1, hc2⟩ := bad_do (what := 6) (now := now) fun h => of_decide_eq_false g2 h.1
  have ECE := Lib.hid hc1
  have EC := Lib.hid hc2
  have RT := Lib.hid g2
  clear hc1 hc2 g2
  clear hb0 hj hn ha hb h40
  go_enter Try.func5, Try.ntmps5
  go_wp2_with fail
  rw [← hW]
  refine (awake11_any H _).mono ?_
  rintro e w1 ⟨rfl, hb⟩
  have HBq := Lib.hid (HB.out.trans (hb.mono HB.out.size))
  clear HB
  have HB := HBq
  clear HBq
  have BXq := Lib.hid (BX.out.next hb)
  clear BX
  have BX := BXq
  clear BXq
  have JAq := Lib.hid (JA.out.next hb)
  clear JA
  have JA := JAq
  clear JAq
  clear hb
  clear hW
  have q0 := BX.out.c0
  have q1 := BX.out.c1
  have q2 := BX.out.c2
  have q3 := BX.out.c3
  have q4 := BX.out.c4
  have q5 := BX.out.c5
  have q6 := BX.out.c6
  have q7 := BX.out.c7
  have q8 := BX.out.c8
  have q9 := BX.out.c9
  have q10 := BX.out.c10
  have q11 := BX.out.c11
  have q12 := BX.out.c12
  go_wp2_with fail
  refine (h11_name H IA.out NA.out).mono ?_
  rintro e w2 ⟨rfl, hb⟩
  have HBq := Lib.hid (HB.out.trans (hb.mono HB.out.size))
  clear HB
  have HB := HBq
  clear HBq
  have BXq := Lib.hid (BX.out.next hb)
  clear BX
  have BX := BXq
  clear BXq
  have JAq := Lib.hid (JA.out.next hb)
  clear JA
  have JA := JAq
  clear JAq
  clear hb
  clear q0 q1 q2 q3 q4 q5 q6 q7 q8 q9 q10 q11 q12
  go_wp2_with fail
  refine (h11_name H IB.out NB.out).mono ?_
  rintro e w3 ⟨rfl, hb⟩
  have HBq := Lib.hid (HB.out.trans (hb.mono HB.out.size))
  clear HB
  have HB := HBq
  clear HBq
  have BXq := Lib.hid (BX.out.next hb)
  clear BX
  have BX := BXq
  clear BXq
  have JAq := Lib.hid (JA.out.next hb)
  clear JA
  have JA := JAq
  clear JAq
  clear hb
  have q0 := BX.out.c0
  have q1 := BX.out.c1
  have q2 := BX.out.c2
  have q3 := BX.out.c3
  have q4 := BX.out.c4
  have q5 := BX.out.c5
  have q6 := BX.out.c6
  have q7 := BX.out.c7
  have q8 := BX.out.c8
  have q9 := BX.out.c9
  have q10 := BX.out.c10
  have q11 := BX.out.c11
  have q12 := BX.out.c12
  go_wp2_with fail
  refine (h11_do H JA.out hmm I1.out IN.out EH.out EHE.out).mono ?_
  rintro e w4 ⟨⟨A1, m1, c1, rfl, hj1⟩, hb⟩
  have HBq := Lib.hid (HB.out.trans (hb.mono HB.out.size))
  clear HB
  have HB := HBq
  clear HBq
  have BXq := Lib.hid (BX.out.next hb)
  clear BX
  have BX := BXq
  clear BXq
  have JAq := Lib.hid (JA.out.next hb)
  clear JA
  have JA := JAq
  clear JAq
  clear hb
  have J1 := Lib.hid hj1
  clear hj1
  clear q0 q1 q2 q3 q4 q5 q6 q7 q8 q9 q10 q11 q12
  have hb := Below.alloc (Below.refl w4.heap.size w4) (Nat.le_refl _) (.cells #[.int .i64 k.id, .int .i64 k.spec.nodes, .int .i64 k.spec.cores, .int .i64 k.spec.gpus, .string k.spec.tag, .bool k.spec.whole, .int .i64 k.spec.long, .int .i64 k.spec.prio, .slice A1 m1 c1, .int .i64 k.state, .int .i64 k.came, .int .i64 k.frm, .int .i64 k.to] 26)
  have B1q := Lib.hid (boxJ_new w4 k A1 m1 c1)
  have HBq := Lib.hid (HB.out.trans (hb.mono HB.out.size))
  clear HB
  have HB := HBq
  clear HBq
  have BXq := Lib.hid (BX.out.next hb)
  clear BX
  have BX := BXq
  clear BXq
  have JAq := Lib.hid (JA.out.next hb)
  clear JA
  have JA := JAq
  clear JAq
  have J1q := Lib.hid (J1.out.next hb)
  clear J1
  have J1 := J1q
  clear J1q
  clear hb
  have B1 := B1q
  clear B1q
  have q0 := BX.out.c0
  have q1 := BX.out.c1
  have q2 := BX.out.c2
  have q3 := BX.out.c3
  have q4 := BX.out.c4
  have q5 := BX.out.c5
  have q6 := BX.out.c6
  have q7 := BX.out.c7
  have q8 := BX.out.c8
  have q9 := BX.out.c9
  have q10 := BX.out.c10
  have q11 := BX.out.c11
  have q12 := BX.out.c12
  go_wp2_with fail
  refine (h11_do H JA.out hmm I6.out IN.out EC.out ECE.out).mono ?_
  rintro e w5 ⟨⟨A5, m5, c5, rfl, hj5⟩, hb⟩
  have HBq := Lib.hid (HB.out.trans (hb.mono HB.out.size))
  clear HB
  have HB := HBq
  clear HBq
  have BXq := Lib.hid (BX.out.next hb)
  clear BX
  have BX := BXq
  clear BXq
  have JAq := Lib.hid (JA.out.next hb)
  clear JA
  have JA := JAq
  clear JAq
  have J1q := Lib.hid (J1.out.next hb)
  clear J1
  have J1 := J1q
  clear J1q
  have B1q := Lib.hid (B1.out.next hb)
  clear B1
  have B1 := B1q
  clear B1q
  clear hb
  have J5 := Lib.hid hj5
  clear hj5
  clear q0 q1 q2 q3 q4 q5 q6 q7 q8 q9 q10 q11 q12
  have hb := Below.alloc (Below.refl w5.heap.size w5) (Nat.le_refl _) (.cells #[.int .i64 j.id, .int .i64 j.spec.nodes, .int .i64 j.spec.cores, .int .i64 j.spec.gpus, .string j.spec.tag, .bool j.spec.whole, .int .i64 j.spec.long, .int .i64 j.spec.prio, .slice A5 m5 c5, .int .i64 j.state, .int .i64 j.came, .int .i64 j.frm, .int .i64 j.to] 26)
  have B5q := Lib.hid (boxJ_new w5 j A5 m5 c5)
  have HBq := Lib.hid (HB.out.trans (hb.mono HB.out.size))
  clear HB
  have HB := HBq
  clear HBq
  have BXq := Lib.hid (BX.out.next hb)
  clear BX
  have BX := BXq
  clear BXq
  have JAq := Lib.hid (JA.out.next hb)
  clear JA
  have JA := JAq
  clear JAq
  have J1q := Lib.hid (J1.out.next hb)
  clear J1
  have J1 := J1q
  clear J1q
  have B1q := Lib.hid (B1.out.next hb)
  clear B1
  have B1 := B1q
  clear B1q
  have J5q := Lib.hid (J5.out.next hb)
  clear J5
  have J5 := J5q
  clear J5q
  clear hb
  have B5 := B5q
  clear B5q
  have q0 := BX.out.c0
  have q1 := BX.out.c1
  have q2 := BX.out.c2
  have q3 := BX.out.c3
  have q4 := BX.out.c4
  have q5 := BX.out.c5
  have q6 := BX.out.c6
  have q7 := BX.out.c7
  have q8 := BX.out.c8
  have q9 := BX.out.c9
  have q10 := BX.out.c10
  have q11 := BX.out.c11
  have q12 := BX.out.c12
  have r0 := B5.out.c0
  have r1 := B5.out.c1
  have r2 := B5.out.c2
  have r3 := B5.out.c3
  have r4 := B5.out.c4
  have r5 := B5.out.c5
  have r6 := B5.out.c6
  have r7 := B5.out.c7
  have r8 := B5.out.c8
  have r9 := B5.out.c9
  have r10 := B5.out.c10
  have r11 := B5.out.c11
  have r12 := B5.out.c12
  go_wp2_with fail
  refine (h11_right H JA.out hmm RT.out).mono ?_
  rintro e w6 ⟨rfl, hb⟩
  have HBq := Lib.hid (HB.out.trans (hb.mono HB.out.size))
  clear HB
  have HB := HBq
  clear HBq
  have BXq := Lib.hid (BX.out.next hb)
  clear BX
  have BX := BXq
  clear BXq
  have JAq := Lib.hid (JA.out.next hb)
  clear JA
  have JA := JAq
  clear JAq
  have J1q := Lib.hid (J1.out.next hb)
  clear J1
  have J1 := J1q
  clear J1q
  have B1q := Lib.hid (B1.out.next hb)
  clear B1
  have B1 := B1q
  clear B1q
  have J5q := Lib.hid (J5.out.next hb)
  clear J5
  have J5 := J5q
  clear J5q
  have B5q := Lib.hid (B5.out.next hb)
  clear B5
  have B5 := B5q
  clear B5q
  clear hb
  clear q0 q1 q2 q3 q4 q5 q6 q7 q8 q9 q10 q11 q12 r0 r1 r2 r3 r4 r5 r6 r7 r8 r9 r10 r11 r12
  have q0 := BX.out.c0
  have q1 := BX.out.c1
  have q2 := BX.out.c2
  have q3 := BX.out.c3
  have q4 := BX.out.c4
  have q5 := BX.out.c5
  have q6 := BX.out.c6
  have q7 := BX.out.c7
  have q8 := BX.out.c8
  have q9 := BX.out.c9
  have q10 := BX.out.c10
  have q11 := BX.out.c11
  have q12 := BX.out.c12
  have r0 := B5.out.c0
  have r1 := B5.out.c1
  have r2 := B5.out.c2
  have r3 := B5.out.c3
  have r4 := B5.out.c4
  have r5 := B5.out.c5
  have r6 := B5.out.c6
  have r7 := B5.out.c7
  have r8 := B5.out.c8
  have r9 := B5.out.c9
  have r10 := B5.out.c10
  have r11 := B5.out.c11
  have r12 := B5.out.c12
  go_wp2_with fail
  refine (refSameJ_b J5.out JA.out (sameJ_iff.2 rfl)).mono ?_
  rintro e w7 ⟨rfl, hb⟩
  have HBq := Lib.hid (HB.out.trans (hb.mono HB.out.size))
  clear HB
  have HB := HBq
  clear HBq
  have BXq := Lib.hid (BX.out.next hb)
  clear BX
  have BX := BXq
  clear BXq
  have JAq := Lib.hid (JA.out.next hb)
  clear JA
  have JA := JAq
  clear JAq
  have J1q := Lib.hid (J1.out.next hb)
  clear J1
  have J1 := J1q
  clear J1q
  have B1q := Lib.hid (B1.out.next hb)
  clear B1
  have B1 := B1q
  clear B1q
  have J5q := Lib.hid (J5.out.next hb)
  clear J5
  have J5 := J5q
  clear J5q
  have B5q := Lib.hid (B5.out.next hb)
  clear B5
  have B5 := B5q
  clear B5q
  clear hb
  go_wp2
  go_ret
  exact ⟨rfl, HB.out⟩

set_option maxRecDepth 100000 in
set_option maxHeartbeats 8000000 in
theorem jobFree_i2a (H : JobOk) (A : Option Addr) (m c : Nat) (j : Jb) (now a b : Int) (w : World) (hj : JAsk w A m c j) (hn : I64 now) (ha : I64 a) (hb : I64 b) (h40 : ¬ 40 < m) (k1 : 0 ≤ a) (k2 : a ≤ 6) (k3 : ¬ a = b) (g1 : doE j 1 now ≠ 0) (g2 : rightJ j = true) (g3 : doE j 6 now = 1) :
    Calls Try.prog 5 #[.agg #[.int .i64 j.id, .int .i64 j.spec.nodes, .int .i64 j.spec.cores, .int .i64 j.spec.gpus, .string j.spec.tag, .bool j.spec.whole, .int .i64 j.spec.long, .int .i64 j.spec.prio, .slice A m c, .int .i64 j.state, .int .i64 j.came, .int .i64 j.frm, .int .i64 j.to], .int .i64 now, .int .i64 a, .int .i64 b] w fun e w' => e = .returned (.bool true) ∧ Below w.heap.size w w' := by
  obtain ⟨W, hW⟩ : ∃ W, W = w.alloc (jO j A m c) := ⟨_, rfl⟩
  have BX : Hid (BoxJ W w.heap.size j A m c) := Lib.hid (by rw [hW]; exact boxJ_new w j A m c)
  have hb0 : Below w.heap.size w W := by rw [hW]; exact (Below.refl _ _).alloc (Nat.le_refl _) _
  have HB := Lib.hid hb0
  have JA := Lib.hid (hj.next hb0)
  unfold jO at hW
  have h40d : decide ((40 : Int) < (m : Int)) = false := by simp; omega
  have hmm : m ≤ 100 := by omega
  have HML := Lib.hid hj.reads.1
  have IN := Lib.hid hn
  have IA := Lib.hid ha
  have IB := Lib.hid hb
  have IST := Lib.hid hj.int.2.1
  have I1 : Hid (I64 1) := Lib.hid (by unfold I64; omega)
  have I2 : Hid (I64 2) := Lib.hid (by unfold I64; omega)
  have I6 : Hid (I64 6) := Lib.hid (by unfold I64; omega)
  have d1 : decide (a < 0) = false := decide_eq_false (by omega)
  have d2 : decide (6 < a) = false := decide_eq_false (by omega)
  have hsz := name_in k1 k2
  have hne : nameJ a ≠ nameJ b := fun e => k3 (name_one k1 k2 e)
  obtain ⟨x, hx⟩ : ∃ x, nameJ a = x := ⟨_, rfl⟩
  obtain ⟨y, hy⟩ : ∃ y, nameJ b = y := ⟨_, rfl⟩
  rw [hx] at hsz
  rw [hx, hy] at hne
  obtain ⟨s1, s2, s3, s4⟩ := str_some hsz
  obtain ⟨s5, s6, s7⟩ := str_apart hne
  have NA := Lib.hid hx
  have NB := Lib.hid hy
  clear k1 k2 k3 hx hy hsz hne
  obtain ⟨k, hk⟩ : ∃ k, doJ j 1 now = k := ⟨_, rfl⟩
  obtain ⟨eh, heh⟩ : ∃ e, doE j 1 now = e := ⟨_, rfl⟩
  rw [heh] at g1
  have dh : (eh == 0) = false := by rw [beq_eq_false_iff_ne]; exact g1
  have EH := Lib.hid hk
  have EHE := Lib.hid heh
  clear hk heh g1
  have hc2 : doJ j 6 now = j := doJ_no (by rw [g3]; decide)
  have ECE := Lib.hid g3
  have EC := Lib.hid hc2
  have RT := Lib.hid g2
  clear hc2 g2 g3
  clear hb0 hj hn ha hb h40
  go_enter Try.func5, Try.ntmps5
  go_wp2_with fail
  rw [← hW]
  refine (awake11_any H _).mono ?_
  rintro e w1 ⟨rfl, hb⟩
  have HBq := Lib.hid (HB.out.trans (hb.mono HB.out.size))
  clear HB
  have HB := HBq
  clear HBq
  have BXq := Lib.hid (BX.out.next hb)
  clear BX
  have BX := BXq
  clear BXq
  have JAq := Lib.hid (JA.out.next hb)
  clear JA
  have JA := JAq
  clear JAq
  clear hb
  clear hW
  have q0 := BX.out.c0
  have q1 := BX.out.c1
  have q2 := BX.out.c2
  have q3 := BX.out.c3
  have q4 := BX.out.c4
  have q5 := BX.out.c5
  have q6 := BX.out.c6
  have q7 := BX.out.c7
  have q8 := BX.out.c8
  have q9 := BX.out.c9
  have q10 := BX.out.c10
  have q11 := BX.out.c11
  have q12 := BX.out.c12
  go_wp2_with fail
  refine (h11_name H IA.out NA.out).mono ?_
  rintro e w2 ⟨rfl, hb⟩
  have HBq := Lib.hid (HB.out.trans (hb.mono HB.out.size))
  clear HB
  have HB := HBq
  clear HBq
  have BXq := Lib.hid (BX.out.next hb)
  clear BX
  have BX := BXq
  clear BXq
  have JAq := Lib.hid (JA.out.next hb)
  clear JA
  have JA := JAq
  clear JAq
  clear hb
  clear q0 q1 q2 q3 q4 q5 q6 q7 q8 q9 q10 q11 q12
  go_wp2_with fail
  refine (h11_name H IB.out NB.out).mono ?_
  rintro e w3 ⟨rfl, hb⟩
  have HBq := Lib.hid (HB.out.trans (hb.mono HB.out.size))
  clear HB
  have HB := HBq
  clear HBq
  have BXq := Lib.hid (BX.out.next hb)
  clear BX
  have BX := BXq
  clear BXq
  have JAq := Lib.hid (JA.out.next hb)
  clear JA
  have JA := JAq
  clear JAq
  clear hb
  have q0 := BX.out.c0
  have q1 := BX.out.c1
  have q2 := BX.out.c2
  have q3 := BX.out.c3
  have q4 := BX.out.c4
  have q5 := BX.out.c5
  have q6 := BX.out.c6
  have q7 := BX.out.c7
  have q8 := BX.out.c8
  have q9 := BX.out.c9
  have q10 := BX.out.c10
  have q11 := BX.out.c11
  have q12 := BX.out.c12
  go_wp2_with fail
  refine (h11_do H JA.out hmm I1.out IN.out EH.out EHE.out).mono ?_
  rintro e w4 ⟨⟨A1, m1, c1, rfl, hj1⟩, hb⟩
  have HBq := Lib.hid (HB.out.trans (hb.mono HB.out.size))
  clear HB
  have HB := HBq
  clear HBq
  have BXq := Lib.hid (BX.out.next hb)
  clear BX
  have BX := BXq
  clear BXq
  have JAq := Lib.hid (JA.out.next hb)
  clear JA
  have JA := JAq
  clear JAq
  clear hb
  have J1 := Lib.hid hj1
  clear hj1
  clear q0 q1 q2 q3 q4 q5 q6 q7 q8 q9 q10 q11 q12
  have hb := Below.alloc (Below.refl w4.heap.size w4) (Nat.le_refl _) (.cells #[.int .i64 k.id, .int .i64 k.spec.nodes, .int .i64 k.spec.cores, .int .i64 k.spec.gpus, .string k.spec.tag, .bool k.spec.whole, .int .i64 k.spec.long, .int .i64 k.spec.prio, .slice A1 m1 c1, .int .i64 k.state, .int .i64 k.came, .int .i64 k.frm, .int .i64 k.to] 26)
  have B1q := Lib.hid (boxJ_new w4 k A1 m1 c1)
  have HBq := Lib.hid (HB.out.trans (hb.mono HB.out.size))
  clear HB
  have HB := HBq
  clear HBq
  have BXq := Lib.hid (BX.out.next hb)
  clear BX
  have BX := BXq
  clear BXq
  have JAq := Lib.hid (JA.out.next hb)
  clear JA
  have JA := JAq
  clear JAq
  have J1q := Lib.hid (J1.out.next hb)
  clear J1
  have J1 := J1q
  clear J1q
  clear hb
  have B1 := B1q
  clear B1q
  have q0 := BX.out.c0
  have q1 := BX.out.c1
  have q2 := BX.out.c2
  have q3 := BX.out.c3
  have q4 := BX.out.c4
  have q5 := BX.out.c5
  have q6 := BX.out.c6
  have q7 := BX.out.c7
  have q8 := BX.out.c8
  have q9 := BX.out.c9
  have q10 := BX.out.c10
  have q11 := BX.out.c11
  have q12 := BX.out.c12
  go_wp2_with fail
  refine (h11_do H JA.out hmm I6.out IN.out EC.out ECE.out).mono ?_
  rintro e w5 ⟨⟨A5, m5, c5, rfl, hj5⟩, hb⟩
  have HBq := Lib.hid (HB.out.trans (hb.mono HB.out.size))
  clear HB
  have HB := HBq
  clear HBq
  have BXq := Lib.hid (BX.out.next hb)
  clear BX
  have BX := BXq
  clear BXq
  have JAq := Lib.hid (JA.out.next hb)
  clear JA
  have JA := JAq
  clear JAq
  have J1q := Lib.hid (J1.out.next hb)
  clear J1
  have J1 := J1q
  clear J1q
  have B1q := Lib.hid (B1.out.next hb)
  clear B1
  have B1 := B1q
  clear B1q
  clear hb
  have J5 := Lib.hid hj5
  clear hj5
  clear q0 q1 q2 q3 q4 q5 q6 q7 q8 q9 q10 q11 q12
  have hb := Below.alloc (Below.refl w5.heap.size w5) (Nat.le_refl _) (.cells #[.int .i64 j.id, .int .i64 j.spec.nodes, .int .i64 j.spec.cores, .int .i64 j.spec.gpus, .string j.spec.tag, .bool j.spec.whole, .int .i64 j.spec.long, .int .i64 j.spec.prio, .slice A5 m5 c5, .int .i64 j.state, .int .i64 j.came, .int .i64 j.frm, .int .i64 j.to] 26)
  have B5q := Lib.hid (boxJ_new w5 j A5 m5 c5)
  have HBq := Lib.hid (HB.out.trans (hb.mono HB.out.size))
  clear HB
  have HB := HBq
  clear HBq
  have BXq := Lib.hid (BX.out.next hb)
  clear BX
  have BX := BXq
  clear BXq
  have JAq := Lib.hid (JA.out.next hb)
  clear JA
  have JA := JAq
  clear JAq
  have J1q := Lib.hid (J1.out.next hb)
  clear J1
  have J1 := J1q
  clear J1q
  have B1q := Lib.hid (B1.out.next hb)
  clear B1
  have B1 := B1q
  clear B1q
  have J5q := Lib.hid (J5.out.next hb)
  clear J5
  have J5 := J5q
  clear J5q
  clear hb
  have B5 := B5q
  clear B5q
  have q0 := BX.out.c0
  have q1 := BX.out.c1
  have q2 := BX.out.c2
  have q3 := BX.out.c3
  have q4 := BX.out.c4
  have q5 := BX.out.c5
  have q6 := BX.out.c6
  have q7 := BX.out.c7
  have q8 := BX.out.c8
  have q9 := BX.out.c9
  have q10 := BX.out.c10
  have q11 := BX.out.c11
  have q12 := BX.out.c12
  have r0 := B5.out.c0
  have r1 := B5.out.c1
  have r2 := B5.out.c2
  have r3 := B5.out.c3
  have r4 := B5.out.c4
  have r5 := B5.out.c5
  have r6 := B5.out.c6
  have r7 := B5.out.c7
  have r8 := B5.out.c8
  have r9 := B5.out.c9
  have r10 := B5.out.c10
  have r11 := B5.out.c11
  have r12 := B5.out.c12
  go_wp2_with fail
  refine (h11_right H JA.out hmm RT.out).mono ?_
  rintro e w6 ⟨rfl, hb⟩
  have HBq := Lib.hid (HB.out.trans (hb.mono HB.out.size))
  clear HB
  have HB := HBq
  clear HBq
  have BXq := Lib.hid (BX.out.next hb)
  clear BX
  have BX := BXq
  clear BXq
  have JAq := Lib.hid (JA.out.next hb)
  clear JA
  have JA := JAq
  clear JAq
  have J1q := Lib.hid (J1.out.next hb)
  clear J1
  have J1 := J1q
  clear J1q
  have B1q := Lib.hid (B1.out.next hb)
  clear B1
  have B1 := B1q
  clear B1q
  have J5q := Lib.hid (J5.out.next hb)
  clear J5
  have J5 := J5q
  clear J5q
  have B5q := Lib.hid (B5.out.next hb)
  clear B5
  have B5 := B5q
  clear B5q
  clear hb
  clear q0 q1 q2 q3 q4 q5 q6 q7 q8 q9 q10 q11 q12 r0 r1 r2 r3 r4 r5 r6 r7 r8 r9 r10 r11 r12
  have q0 := BX.out.c0
  have q1 := BX.out.c1
  have q2 := BX.out.c2
  have q3 := BX.out.c3
  have q4 := BX.out.c4
  have q5 := BX.out.c5
  have q6 := BX.out.c6
  have q7 := BX.out.c7
  have q8 := BX.out.c8
  have q9 := BX.out.c9
  have q10 := BX.out.c10
  have q11 := BX.out.c11
  have q12 := BX.out.c12
  have r0 := B5.out.c0
  have r1 := B5.out.c1
  have r2 := B5.out.c2
  have r3 := B5.out.c3
  have r4 := B5.out.c4
  have r5 := B5.out.c5
  have r6 := B5.out.c6
  have r7 := B5.out.c7
  have r8 := B5.out.c8
  have r9 := B5.out.c9
  have r10 := B5.out.c10
  have r11 := B5.out.c11
  have r12 := B5.out.c12
  go_wp2_with fail
  refine (refSameJ_b J5.out JA.out (sameJ_iff.2 rfl)).mono ?_
  rintro e w7 ⟨rfl, hb⟩
  have HBq := Lib.hid (HB.out.trans (hb.mono HB.out.size))
  clear HB
  have HB := HBq
  clear HBq
  have BXq := Lib.hid (BX.out.next hb)
  clear BX
  have BX := BXq
  clear BXq
  have JAq := Lib.hid (JA.out.next hb)
  clear JA
  have JA := JAq
  clear JAq
  have J1q := Lib.hid (J1.out.next hb)
  clear J1
  have J1 := J1q
  clear J1q
  have B1q := Lib.hid (B1.out.next hb)
  clear B1
  have B1 := B1q
  clear B1q
  have J5q := Lib.hid (J5.out.next hb)
  clear J5
  have J5 := J5q
  clear J5q
  have B5q := Lib.hid (B5.out.next hb)
  clear B5
  have B5 := B5q
  clear B5q
  clear hb
  go_wp2
  go_ret
  exact ⟨rfl, HB.out⟩

set_option maxRecDepth 100000 in
set_option maxHeartbeats 8000000 in
theorem jobFree_i2e (H : JobOk) (A : Option Addr) (m c : Nat) (j : Jb) (now a b : Int) (w : World) (hj : JAsk w A m c j) (hn : I64 now) (ha : I64 a) (hb : I64 b) (h40 : ¬ 40 < m) (k1 : 0 ≤ a) (k2 : a ≤ 6) (k3 : ¬ a = b) (g1 : doE j 1 now ≠ 0) (g2 : rightJ j = true) (g3 : doE j 6 now = 8) :
    Calls Try.prog 5 #[.agg #[.int .i64 j.id, .int .i64 j.spec.nodes, .int .i64 j.spec.cores, .int .i64 j.spec.gpus, .string j.spec.tag, .bool j.spec.whole, .int .i64 j.spec.long, .int .i64 j.spec.prio, .slice A m c, .int .i64 j.state, .int .i64 j.came, .int .i64 j.frm, .int .i64 j.to], .int .i64 now, .int .i64 a, .int .i64 b] w fun e w' => e = .returned (.bool true) ∧ Below w.heap.size w w' := by
  obtain ⟨W, hW⟩ : ∃ W, W = w.alloc (jO j A m c) := ⟨_, rfl⟩
  have BX : Hid (BoxJ W w.heap.size j A m c) := Lib.hid (by rw [hW]; exact boxJ_new w j A m c)
  have hb0 : Below w.heap.size w W := by rw [hW]; exact (Below.refl _ _).alloc (Nat.le_refl _) _
  have HB := Lib.hid hb0
  have JA := Lib.hid (hj.next hb0)
  unfold jO at hW
  have h40d : decide ((40 : Int) < (m : Int)) = false := by simp; omega
  have hmm : m ≤ 100 := by omega
  have HML := Lib.hid hj.reads.1
  have IN := Lib.hid hn
  have IA := Lib.hid ha
  have IB := Lib.hid hb
  have IST := Lib.hid hj.int.2.1
  have I1 : Hid (I64 1) := Lib.hid (by unfold I64; omega)
  have I2 : Hid (I64 2) := Lib.hid (by unfold I64; omega)
  have I6 : Hid (I64 6) := Lib.hid (by unfold I64; omega)
  have d1 : decide (a < 0) = false := decide_eq_false (by omega)
  have d2 : decide (6 < a) = false := decide_eq_false (by omega)
  have hsz := name_in k1 k2
  have hne : nameJ a ≠ nameJ b := fun e => k3 (name_one k1 k2 e)
  obtain ⟨x, hx⟩ : ∃ x, nameJ a = x := ⟨_, rfl⟩
  obtain ⟨y, hy⟩ : ∃ y, nameJ b = y := ⟨_, rfl⟩
  rw [hx] at hsz
  rw [hx, hy] at hne
  obtain ⟨s1, s2, s3, s4⟩ := str_some hsz
  obtain ⟨s5, s6, s7⟩ := str_apart hne
  have NA := Lib.hid hx
  have NB := Lib.hid hy
  clear k1 k2 k3 hx hy hsz hne
  obtain ⟨k, hk⟩ : ∃ k, doJ j 1 now = k := ⟨_, rfl⟩
  obtain ⟨eh, heh⟩ : ∃ e, doE j 1 now = e := ⟨_, rfl⟩
  rw [heh] at g1
  have dh : (eh == 0) = false := by rw [beq_eq_false_iff_ne]; exact g1
  have EH := Lib.hid hk
  have EHE := Lib.hid heh
  clear hk heh g1
  have hov := cancel_eight g3
  obtain ⟨kc, hkc⟩ : ∃ k, doJ j 6 now = k := ⟨_, rfl⟩
  have ECE := Lib.hid g3
  have EC := Lib.hid hkc
  have OV := Lib.hid hov
  have RT := Lib.hid g2
  clear hov hkc g2 g3
  clear hb0 hj hn ha hb h40
  go_enter Try.func5, Try.ntmps5
  go_wp2_with fail
  rw [← hW]
  refine (awake11_any H _).mono ?_
  rintro e w1 ⟨rfl, hb⟩
  have HBq := Lib.hid (HB.out.trans (hb.mono HB.out.size))
  clear HB
  have HB := HBq
  clear HBq
  have BXq := Lib.hid (BX.out.next hb)
  clear BX
  have BX := BXq
  clear BXq
  have JAq := Lib.hid (JA.out.next hb)
  clear JA
  have JA := JAq
  clear JAq
  clear hb
  clear hW
  have q0 := BX.out.c0
  have q1 := BX.out.c1
  have q2 := BX.out.c2
  have q3 := BX.out.c3
  have q4 := BX.out.c4
  have q5 := BX.out.c5
  have q6 := BX.out.c6
  have q7 := BX.out.c7
  have q8 := BX.out.c8
  have q9 := BX.out.c9
  have q10 := BX.out.c10
  have q11 := BX.out.c11
  have q12 := BX.out.c12
  go_wp2_with fail
  refine (h11_name H IA.out NA.out).mono ?_
  rintro e w2 ⟨rfl, hb⟩
  have HBq := Lib.hid (HB.out.trans (hb.mono HB.out.size))
  clear HB
  have HB := HBq
  clear HBq
  have BXq := Lib.hid (BX.out.next hb)
  clear BX
  have BX := BXq
  clear BXq
  have JAq := Lib.hid (JA.out.next hb)
  clear JA
  have JA := JAq
  clear JAq
  clear hb
  clear q0 q1 q2 q3 q4 q5 q6 q7 q8 q9 q10 q11 q12
  go_wp2_with fail
  refine (h11_name H IB.out NB.out).mono ?_
  rintro e w3 ⟨rfl, hb⟩
  have HBq := Lib.hid (HB.out.trans (hb.mono HB.out.size))
  clear HB
  have HB := HBq
  clear HBq
  have BXq := Lib.hid (BX.out.next hb)
  clear BX
  have BX := BXq
  clear BXq
  have JAq := Lib.hid (JA.out.next hb)
  clear JA
  have JA := JAq
  clear JAq
  clear hb
  have q0 := BX.out.c0
  have q1 := BX.out.c1
  have q2 := BX.out.c2
  have q3 := BX.out.c3
  have q4 := BX.out.c4
  have q5 := BX.out.c5
  have q6 := BX.out.c6
  have q7 := BX.out.c7
  have q8 := BX.out.c8
  have q9 := BX.out.c9
  have q10 := BX.out.c10
  have q11 := BX.out.c11
  have q12 := BX.out.c12
  go_wp2_with fail
  refine (h11_do H JA.out hmm I1.out IN.out EH.out EHE.out).mono ?_
  rintro e w4 ⟨⟨A1, m1, c1, rfl, hj1⟩, hb⟩
  have HBq := Lib.hid (HB.out.trans (hb.mono HB.out.size))
  clear HB
  have HB := HBq
  clear HBq
  have BXq := Lib.hid (BX.out.next hb)
  clear BX
  have BX := BXq
  clear BXq
  have JAq := Lib.hid (JA.out.next hb)
  clear JA
  have JA := JAq
  clear JAq
  clear hb
  have J1 := Lib.hid hj1
  clear hj1
  clear q0 q1 q2 q3 q4 q5 q6 q7 q8 q9 q10 q11 q12
  have hb := Below.alloc (Below.refl w4.heap.size w4) (Nat.le_refl _) (.cells #[.int .i64 k.id, .int .i64 k.spec.nodes, .int .i64 k.spec.cores, .int .i64 k.spec.gpus, .string k.spec.tag, .bool k.spec.whole, .int .i64 k.spec.long, .int .i64 k.spec.prio, .slice A1 m1 c1, .int .i64 k.state, .int .i64 k.came, .int .i64 k.frm, .int .i64 k.to] 26)
  have B1q := Lib.hid (boxJ_new w4 k A1 m1 c1)
  have HBq := Lib.hid (HB.out.trans (hb.mono HB.out.size))
  clear HB
  have HB := HBq
  clear HBq
  have BXq := Lib.hid (BX.out.next hb)
  clear BX
  have BX := BXq
  clear BXq
  have JAq := Lib.hid (JA.out.next hb)
  clear JA
  have JA := JAq
  clear JAq
  have J1q := Lib.hid (J1.out.next hb)
  clear J1
  have J1 := J1q
  clear J1q
  clear hb
  have B1 := B1q
  clear B1q
  have q0 := BX.out.c0
  have q1 := BX.out.c1
  have q2 := BX.out.c2
  have q3 := BX.out.c3
  have q4 := BX.out.c4
  have q5 := BX.out.c5
  have q6 := BX.out.c6
  have q7 := BX.out.c7
  have q8 := BX.out.c8
  have q9 := BX.out.c9
  have q10 := BX.out.c10
  have q11 := BX.out.c11
  have q12 := BX.out.c12
  go_wp2_with fail
  refine (h11_do H JA.out hmm I6.out IN.out EC.out ECE.out).mono ?_
  rintro e w5 ⟨⟨A5, m5, c5, rfl, hj5⟩, hb⟩
  have HBq := Lib.hid (HB.out.trans (hb.mono HB.out.size))
  clear HB
  have HB := HBq
  clear HBq
  have BXq := Lib.hid (BX.out.next hb)
  clear BX
  have BX := BXq
  clear BXq
  have JAq := Lib.hid (JA.out.next hb)
  clear JA
  have JA := JAq
  clear JAq
  have J1q := Lib.hid (J1.out.next hb)
  clear J1
  have J1 := J1q
  clear J1q
  have B1q := Lib.hid (B1.out.next hb)
  clear B1
  have B1 := B1q
  clear B1q
  clear hb
  have J5 := Lib.hid hj5
  clear hj5
  clear q0 q1 q2 q3 q4 q5 q6 q7 q8 q9 q10 q11 q12
  have hb := Below.alloc (Below.refl w5.heap.size w5) (Nat.le_refl _) (.cells #[.int .i64 kc.id, .int .i64 kc.spec.nodes, .int .i64 kc.spec.cores, .int .i64 kc.spec.gpus, .string kc.spec.tag, .bool kc.spec.whole, .int .i64 kc.spec.long, .int .i64 kc.spec.prio, .slice A5 m5 c5, .int .i64 kc.state, .int .i64 kc.came, .int .i64 kc.frm, .int .i64 kc.to] 26)
  have B5q := Lib.hid (boxJ_new w5 kc A5 m5 c5)
  have HBq := Lib.hid (HB.out.trans (hb.mono HB.out.size))
  clear HB
  have HB := HBq
  clear HBq
  have BXq := Lib.hid (BX.out.next hb)
  clear BX
  have BX := BXq
  clear BXq
  have JAq := Lib.hid (JA.out.next hb)
  clear JA
  have JA := JAq
  clear JAq
  have J1q := Lib.hid (J1.out.next hb)
  clear J1
  have J1 := J1q
  clear J1q
  have B1q := Lib.hid (B1.out.next hb)
  clear B1
  have B1 := B1q
  clear B1q
  have J5q := Lib.hid (J5.out.next hb)
  clear J5
  have J5 := J5q
  clear J5q
  clear hb
  have B5 := B5q
  clear B5q
  have q0 := BX.out.c0
  have q1 := BX.out.c1
  have q2 := BX.out.c2
  have q3 := BX.out.c3
  have q4 := BX.out.c4
  have q5 := BX.out.c5
  have q6 := BX.out.c6
  have q7 := BX.out.c7
  have q8 := BX.out.c8
  have q9 := BX.out.c9
  have q10 := BX.out.c10
  have q11 := BX.out.c11
  have q12 := BX.out.c12
  have r0 := B5.out.c0
  have r1 := B5.out.c1
  have r2 := B5.out.c2
  have r3 := B5.out.c3
  have r4 := B5.out.c4
  have r5 := B5.out.c5
  have r6 := B5.out.c6
  have r7 := B5.out.c7
  have r8 := B5.out.c8
  have r9 := B5.out.c9
  have r10 := B5.out.c10
  have r11 := B5.out.c11
  have r12 := B5.out.c12
  go_wp2_with fail
  refine (h11_right H JA.out hmm RT.out).mono ?_
  rintro e w6 ⟨rfl, hb⟩
  have HBq := Lib.hid (HB.out.trans (hb.mono HB.out.size))
  clear HB
  have HB := HBq
  clear HBq
  have BXq := Lib.hid (BX.out.next hb)
  clear BX
  have BX := BXq
  clear BXq
  have JAq := Lib.hid (JA.out.next hb)
  clear JA
  have JA := JAq
  clear JAq
  have J1q := Lib.hid (J1.out.next hb)
  clear J1
  have J1 := J1q
  clear J1q
  have B1q := Lib.hid (B1.out.next hb)
  clear B1
  have B1 := B1q
  clear B1q
  have J5q := Lib.hid (J5.out.next hb)
  clear J5
  have J5 := J5q
  clear J5q
  have B5q := Lib.hid (B5.out.next hb)
  clear B5
  have B5 := B5q
  clear B5q
  clear hb
  clear q0 q1 q2 q3 q4 q5 q6 q7 q8 q9 q10 q11 q12 r0 r1 r2 r3 r4 r5 r6 r7 r8 r9 r10 r11 r12
  have q0 := BX.out.c0
  have q1 := BX.out.c1
  have q2 := BX.out.c2
  have q3 := BX.out.c3
  have q4 := BX.out.c4
  have q5 := BX.out.c5
  have q6 := BX.out.c6
  have q7 := BX.out.c7
  have q8 := BX.out.c8
  have q9 := BX.out.c9
  have q10 := BX.out.c10
  have q11 := BX.out.c11
  have q12 := BX.out.c12
  have r0 := B5.out.c0
  have r1 := B5.out.c1
  have r2 := B5.out.c2
  have r3 := B5.out.c3
  have r4 := B5.out.c4
  have r5 := B5.out.c5
  have r6 := B5.out.c6
  have r7 := B5.out.c7
  have r8 := B5.out.c8
  have r9 := B5.out.c9
  have r10 := B5.out.c10
  have r11 := B5.out.c11
  have r12 := B5.out.c12
  go_wp2_with fail
  refine (h11_over H IST.out OV.out).mono ?_
  rintro e w7 ⟨rfl, hb⟩
  have HBq := Lib.hid (HB.out.trans (hb.mono HB.out.size))
  clear HB
  have HB := HBq
  clear HBq
  have BXq := Lib.hid (BX.out.next hb)
  clear BX
  have BX := BXq
  clear BXq
  have JAq := Lib.hid (JA.out.next hb)
  clear JA
  have JA := JAq
  clear JAq
  have J1q := Lib.hid (J1.out.next hb)
  clear J1
  have J1 := J1q
  clear J1q
  have B1q := Lib.hid (B1.out.next hb)
  clear B1
  have B1 := B1q
  clear B1q
  have J5q := Lib.hid (J5.out.next hb)
  clear J5
  have J5 := J5q
  clear J5q
  have B5q := Lib.hid (B5.out.next hb)
  clear B5
  have B5 := B5q
  clear B5q
  clear hb
  clear q0 q1 q2 q3 q4 q5 q6 q7 q8 q9 q10 q11 q12 r0 r1 r2 r3 r4 r5 r6 r7 r8 r9 r10 r11 r12
  have q0 := BX.out.c0
  have q1 := BX.out.c1
  have q2 := BX.out.c2
  have q3 := BX.out.c3
  have q4 := BX.out.c4
  have q5 := BX.out.c5
  have q6 := BX.out.c6
  have q7 := BX.out.c7
  have q8 := BX.out.c8
  have q9 := BX.out.c9
  have q10 := BX.out.c10
  have q11 := BX.out.c11
  have q12 := BX.out.c12
  have r0 := B5.out.c0
  have r1 := B5.out.c1
  have r2 := B5.out.c2
  have r3 := B5.out.c3
  have r4 := B5.out.c4
  have r5 := B5.out.c5
  have r6 := B5.out.c6
  have r7 := B5.out.c7
  have r8 := B5.out.c8
  have r9 := B5.out.c9
  have r10 := B5.out.c10
  have r11 := B5.out.c11
  have r12 := B5.out.c12
  go_wp2
  go_ret
  exact ⟨rfl, HB.out⟩

set_option maxRecDepth 100000 in
set_option maxHeartbeats 8000000 in
theorem jobFree_i2c (H : JobOk) (A : Option Addr) (m c : Nat) (j : Jb) (now a b : Int) (w : World) (hj : JAsk w A m c j) (hn : I64 now) (ha : I64 a) (hb : I64 b) (h40 : ¬ 40 < m) (k1 : 0 ≤ a) (k2 : a ≤ 6) (k3 : ¬ a = b) (g1 : doE j 1 now ≠ 0) (g2 : rightJ j = true) (g3 : doE j 6 now = 0) :
    Calls Try.prog 5 #[.agg #[.int .i64 j.id, .int .i64 j.spec.nodes, .int .i64 j.spec.cores, .int .i64 j.spec.gpus, .string j.spec.tag, .bool j.spec.whole, .int .i64 j.spec.long, .int .i64 j.spec.prio, .slice A m c, .int .i64 j.state, .int .i64 j.came, .int .i64 j.frm, .int .i64 j.to], .int .i64 now, .int .i64 a, .int .i64 b] w fun e w' => e = .returned (.bool true) ∧ Below w.heap.size w w' := by
  obtain ⟨W, hW⟩ : ∃ W, W = w.alloc (jO j A m c) := ⟨_, rfl⟩
  have BX : Hid (BoxJ W w.heap.size j A m c) := Lib.hid (by rw [hW]; exact boxJ_new w j A m c)
  have hb0 : Below w.heap.size w W := by rw [hW]; exact (Below.refl _ _).alloc (Nat.le_refl _) _
  have HB := Lib.hid hb0
  have JA := Lib.hid (hj.next hb0)
  unfold jO at hW
  have h40d : decide ((40 : Int) < (m : Int)) = false := by simp; omega
  have hmm : m ≤ 100 := by omega
  have HML := Lib.hid hj.reads.1
  have IN := Lib.hid hn
  have IA := Lib.hid ha
  have IB := Lib.hid hb
  have IST := Lib.hid hj.int.2.1
  have I1 : Hid (I64 1) := Lib.hid (by unfold I64; omega)
  have I2 : Hid (I64 2) := Lib.hid (by unfold I64; omega)
  have I6 : Hid (I64 6) := Lib.hid (by unfold I64; omega)
  have d1 : decide (a < 0) = false := decide_eq_false (by omega)
  have d2 : decide (6 < a) = false := decide_eq_false (by omega)
  have hsz := name_in k1 k2
  have hne : nameJ a ≠ nameJ b := fun e => k3 (name_one k1 k2 e)
  obtain ⟨x, hx⟩ : ∃ x, nameJ a = x := ⟨_, rfl⟩
  obtain ⟨y, hy⟩ : ∃ y, nameJ b = y := ⟨_, rfl⟩
  rw [hx] at hsz
  rw [hx, hy] at hne
  obtain ⟨s1, s2, s3, s4⟩ := str_some hsz
  obtain ⟨s5, s6, s7⟩ := str_apart hne
  have NA := Lib.hid hx
  have NB := Lib.hid hy
  clear k1 k2 k3 hx hy hsz hne
  obtain ⟨k, hk⟩ : ∃ k, doJ j 1 now = k := ⟨_, rfl⟩
  obtain ⟨eh, heh⟩ : ∃ e, doE j 1 now = e := ⟨_, rfl⟩
  rw [heh] at g1
  have dh : (eh == 0) = false := by rw [beq_eq_false_iff_ne]; exact g1
  have EH := Lib.hid hk
  have EHE := Lib.hid heh
  clear hk heh g1
  obtain ⟨hov, hcd⟩ := cancel_does g3
  have ECE := Lib.hid g3
  have EC := Lib.hid hcd
  have OV := Lib.hid hov
  have RT := Lib.hid g2
  clear hov hcd g2 g3
  clear hb0 hj hn ha hb h40
  go_enter Try.func5, Try.ntmps5
  go_wp2_with fail
  rw [← hW]
  refine (awake11_any H _).mono ?_
  rintro e w1 ⟨rfl, hb⟩
  have HBq := Lib.hid (HB.out.trans (hb.mono HB.out.size))
  clear HB
  have HB := HBq
  clear HBq
  have BXq := Lib.hid (BX.out.next hb)
  clear BX
  have BX := BXq
  clear BXq
  have JAq := Lib.hid (JA.out.next hb)
  clear JA
  have JA := JAq
  clear JAq
  clear hb
  clear hW
  have q0 := BX.out.c0
  have q1 := BX.out.c1
  have q2 := BX.out.c2
  have q3 := BX.out.c3
  have q4 := BX.out.c4
  have q5 := BX.out.c5
  have q6 := BX.out.c6
  have q7 := BX.out.c7
  have q8 := BX.out.c8
  have q9 := BX.out.c9
  have q10 := BX.out.c10
  have q11 := BX.out.c11
  have q12 := BX.out.c12
  go_wp2_with fail
  refine (h11_name H IA.out NA.out).mono ?_
  rintro e w2 ⟨rfl, hb⟩
  have HBq := Lib.hid (HB.out.trans (hb.mono HB.out.size))
  clear HB
  have HB := HBq
  clear HBq
  have BXq := Lib.hid (BX.out.next hb)
  clear BX
  have BX := BXq
  clear BXq
  have JAq := Lib.hid (JA.out.next hb)
  clear JA
  have JA := JAq
  clear JAq
  clear hb
  clear q0 q1 q2 q3 q4 q5 q6 q7 q8 q9 q10 q11 q12
  go_wp2_with fail
  refine (h11_name H IB.out NB.out).mono ?_
  rintro e w3 ⟨rfl, hb⟩
  have HBq := Lib.hid (HB.out.trans (hb.mono HB.out.size))
  clear HB
  have HB := HBq
  clear HBq
  have BXq := Lib.hid (BX.out.next hb)
  clear BX
  have BX := BXq
  clear BXq
  have JAq := Lib.hid (JA.out.next hb)
  clear JA
  have JA := JAq
  clear JAq
  clear hb
  have q0 := BX.out.c0
  have q1 := BX.out.c1
  have q2 := BX.out.c2
  have q3 := BX.out.c3
  have q4 := BX.out.c4
  have q5 := BX.out.c5
  have q6 := BX.out.c6
  have q7 := BX.out.c7
  have q8 := BX.out.c8
  have q9 := BX.out.c9
  have q10 := BX.out.c10
  have q11 := BX.out.c11
  have q12 := BX.out.c12
  go_wp2_with fail
  refine (h11_do H JA.out hmm I1.out IN.out EH.out EHE.out).mono ?_
  rintro e w4 ⟨⟨A1, m1, c1, rfl, hj1⟩, hb⟩
  have HBq := Lib.hid (HB.out.trans (hb.mono HB.out.size))
  clear HB
  have HB := HBq
  clear HBq
  have BXq := Lib.hid (BX.out.next hb)
  clear BX
  have BX := BXq
  clear BXq
  have JAq := Lib.hid (JA.out.next hb)
  clear JA
  have JA := JAq
  clear JAq
  clear hb
  have J1 := Lib.hid hj1
  clear hj1
  clear q0 q1 q2 q3 q4 q5 q6 q7 q8 q9 q10 q11 q12
  have hb := Below.alloc (Below.refl w4.heap.size w4) (Nat.le_refl _) (.cells #[.int .i64 k.id, .int .i64 k.spec.nodes, .int .i64 k.spec.cores, .int .i64 k.spec.gpus, .string k.spec.tag, .bool k.spec.whole, .int .i64 k.spec.long, .int .i64 k.spec.prio, .slice A1 m1 c1, .int .i64 k.state, .int .i64 k.came, .int .i64 k.frm, .int .i64 k.to] 26)
  have B1q := Lib.hid (boxJ_new w4 k A1 m1 c1)
  have HBq := Lib.hid (HB.out.trans (hb.mono HB.out.size))
  clear HB
  have HB := HBq
  clear HBq
  have BXq := Lib.hid (BX.out.next hb)
  clear BX
  have BX := BXq
  clear BXq
  have JAq := Lib.hid (JA.out.next hb)
  clear JA
  have JA := JAq
  clear JAq
  have J1q := Lib.hid (J1.out.next hb)
  clear J1
  have J1 := J1q
  clear J1q
  clear hb
  have B1 := B1q
  clear B1q
  have q0 := BX.out.c0
  have q1 := BX.out.c1
  have q2 := BX.out.c2
  have q3 := BX.out.c3
  have q4 := BX.out.c4
  have q5 := BX.out.c5
  have q6 := BX.out.c6
  have q7 := BX.out.c7
  have q8 := BX.out.c8
  have q9 := BX.out.c9
  have q10 := BX.out.c10
  have q11 := BX.out.c11
  have q12 := BX.out.c12
  go_wp2_with fail
  refine (h11_do H JA.out hmm I6.out IN.out EC.out ECE.out).mono ?_
  rintro e w5 ⟨⟨A5, m5, c5, rfl, hj5⟩, hb⟩
  have HBq := Lib.hid (HB.out.trans (hb.mono HB.out.size))
  clear HB
  have HB := HBq
  clear HBq
  have BXq := Lib.hid (BX.out.next hb)
  clear BX
  have BX := BXq
  clear BXq
  have JAq := Lib.hid (JA.out.next hb)
  clear JA
  have JA := JAq
  clear JAq
  have J1q := Lib.hid (J1.out.next hb)
  clear J1
  have J1 := J1q
  clear J1q
  have B1q := Lib.hid (B1.out.next hb)
  clear B1
  have B1 := B1q
  clear B1q
  clear hb
  have J5 := Lib.hid hj5
  clear hj5
  clear q0 q1 q2 q3 q4 q5 q6 q7 q8 q9 q10 q11 q12
  have hb := Below.alloc (Below.refl w5.heap.size w5) (Nat.le_refl _) (.cells #[.int .i64 j.id, .int .i64 j.spec.nodes, .int .i64 j.spec.cores, .int .i64 j.spec.gpus, .string j.spec.tag, .bool j.spec.whole, .int .i64 j.spec.long, .int .i64 j.spec.prio, .slice A5 m5 c5, .int .i64 5, .int .i64 j.came, .int .i64 j.frm, .int .i64 now] 26)
  have B5q := Lib.hid (boxJ_new w5 ⟨j.id, j.spec, j.needs, 5, j.came, j.frm, now⟩ A5 m5 c5)
  have HBq := Lib.hid (HB.out.trans (hb.mono HB.out.size))
  clear HB
  have HB := HBq
  clear HBq
  have BXq := Lib.hid (BX.out.next hb)
  clear BX
  have BX := BXq
  clear BXq
  have JAq := Lib.hid (JA.out.next hb)
  clear JA
  have JA := JAq
  clear JAq
  have J1q := Lib.hid (J1.out.next hb)
  clear J1
  have J1 := J1q
  clear J1q
  have B1q := Lib.hid (B1.out.next hb)
  clear B1
  have B1 := B1q
  clear B1q
  have J5q := Lib.hid (J5.out.next hb)
  clear J5
  have J5 := J5q
  clear J5q
  clear hb
  have B5 := B5q
  clear B5q
  have q0 := BX.out.c0
  have q1 := BX.out.c1
  have q2 := BX.out.c2
  have q3 := BX.out.c3
  have q4 := BX.out.c4
  have q5 := BX.out.c5
  have q6 := BX.out.c6
  have q7 := BX.out.c7
  have q8 := BX.out.c8
  have q9 := BX.out.c9
  have q10 := BX.out.c10
  have q11 := BX.out.c11
  have q12 := BX.out.c12
  have r0 := B5.out.c0
  have r1 := B5.out.c1
  have r2 := B5.out.c2
  have r3 := B5.out.c3
  have r4 := B5.out.c4
  have r5 := B5.out.c5
  have r6 := B5.out.c6
  have r7 := B5.out.c7
  have r8 := B5.out.c8
  have r9 := B5.out.c9
  have r10 := B5.out.c10
  have r11 := B5.out.c11
  have r12 := B5.out.c12
  simp only at r9 r11 r12
  go_wp2_with fail
  refine (h11_right H JA.out hmm RT.out).mono ?_
  rintro e w6 ⟨rfl, hb⟩
  have HBq := Lib.hid (HB.out.trans (hb.mono HB.out.size))
  clear HB
  have HB := HBq
  clear HBq
  have BXq := Lib.hid (BX.out.next hb)
  clear BX
  have BX := BXq
  clear BXq
  have JAq := Lib.hid (JA.out.next hb)
  clear JA
  have JA := JAq
  clear JAq
  have J1q := Lib.hid (J1.out.next hb)
  clear J1
  have J1 := J1q
  clear J1q
  have B1q := Lib.hid (B1.out.next hb)
  clear B1
  have B1 := B1q
  clear B1q
  have J5q := Lib.hid (J5.out.next hb)
  clear J5
  have J5 := J5q
  clear J5q
  have B5q := Lib.hid (B5.out.next hb)
  clear B5
  have B5 := B5q
  clear B5q
  clear hb
  clear q0 q1 q2 q3 q4 q5 q6 q7 q8 q9 q10 q11 q12 r0 r1 r2 r3 r4 r5 r6 r7 r8 r9 r10 r11 r12
  have q0 := BX.out.c0
  have q1 := BX.out.c1
  have q2 := BX.out.c2
  have q3 := BX.out.c3
  have q4 := BX.out.c4
  have q5 := BX.out.c5
  have q6 := BX.out.c6
  have q7 := BX.out.c7
  have q8 := BX.out.c8
  have q9 := BX.out.c9
  have q10 := BX.out.c10
  have q11 := BX.out.c11
  have q12 := BX.out.c12
  have r0 := B5.out.c0
  have r1 := B5.out.c1
  have r2 := B5.out.c2
  have r3 := B5.out.c3
  have r4 := B5.out.c4
  have r5 := B5.out.c5
  have r6 := B5.out.c6
  have r7 := B5.out.c7
  have r8 := B5.out.c8
  have r9 := B5.out.c9
  have r10 := B5.out.c10
  have r11 := B5.out.c11
  have r12 := B5.out.c12
  simp only at r9 r11 r12
  go_wp2_with fail
  refine (h11_over H IST.out OV.out).mono ?_
  rintro e w7 ⟨rfl, hb⟩
  have HBq := Lib.hid (HB.out.trans (hb.mono HB.out.size))
  clear HB
  have HB := HBq
  clear HBq
  have BXq := Lib.hid (BX.out.next hb)
  clear BX
  have BX := BXq
  clear BXq
  have JAq := Lib.hid (JA.out.next hb)
  clear JA
  have JA := JAq
  clear JAq
  have J1q := Lib.hid (J1.out.next hb)
  clear J1
  have J1 := J1q
  clear J1q
  have B1q := Lib.hid (B1.out.next hb)
  clear B1
  have B1 := B1q
  clear B1q
  have J5q := Lib.hid (J5.out.next hb)
  clear J5
  have J5 := J5q
  clear J5q
  have B5q := Lib.hid (B5.out.next hb)
  clear B5
  have B5 := B5q
  clear B5q
  clear hb
  clear q0 q1 q2 q3 q4 q5 q6 q7 q8 q9 q10 q11 q12 r0 r1 r2 r3 r4 r5 r6 r7 r8 r9 r10 r11 r12
  have q0 := BX.out.c0
  have q1 := BX.out.c1
  have q2 := BX.out.c2
  have q3 := BX.out.c3
  have q4 := BX.out.c4
  have q5 := BX.out.c5
  have q6 := BX.out.c6
  have q7 := BX.out.c7
  have q8 := BX.out.c8
  have q9 := BX.out.c9
  have q10 := BX.out.c10
  have q11 := BX.out.c11
  have q12 := BX.out.c12
  have r0 := B5.out.c0
  have r1 := B5.out.c1
  have r2 := B5.out.c2
  have r3 := B5.out.c3
  have r4 := B5.out.c4
  have r5 := B5.out.c5
  have r6 := B5.out.c6
  have r7 := B5.out.c7
  have r8 := B5.out.c8
  have r9 := B5.out.c9
  have r10 := B5.out.c10
  have r11 := B5.out.c11
  have r12 := B5.out.c12
  simp only at r9 r11 r12
  go_wp2
  go_ret
  exact ⟨rfl, HB.out⟩

theorem jobFree_walk (H : JobOk) (A : Option Addr) (m c : Nat) (j : Jb) (now a b : Int) (w : World) (hj : JAsk w A m c j) (hn : I64 now) (ha : I64 a) (hb : I64 b) : Calls Try.prog 5 #[.agg #[.int .i64 j.id, .int .i64 j.spec.nodes, .int .i64 j.spec.cores, .int .i64 j.spec.gpus, .string j.spec.tag, .bool j.spec.whole, .int .i64 j.spec.long, .int .i64 j.spec.prio, .slice A m c, .int .i64 j.state, .int .i64 j.came, .int .i64 j.frm, .int .i64 j.to], .int .i64 now, .int .i64 a, .int .i64 b] w fun e w' => e = .returned (.bool true) ∧ Below w.heap.size w w' := by
  by_cases h40 : 40 < m
  · exact jobFree_l H A m c j now a b w hj hn ha hb h40
  by_cases k1 : a < 0
  · by_cases g1 : doE j 1 now = 0
    · exact jobFree_o1h H A m c j now a b w hj hn ha hb h40 k1 g1
    cases g2 : rightJ j with
    | false => exact jobFree_o1n H A m c j now a b w hj hn ha hb h40 k1 g1 g2
    | true =>
    rcases do_three (j := j) (now := now) 6 with g3 | g3 | g3
    · exact jobFree_o1c H A m c j now a b w hj hn ha hb h40 k1 g1 g2 g3
    · exact jobFree_o1a H A m c j now a b w hj hn ha hb h40 k1 g1 g2 g3
    · exact jobFree_o1e H A m c j now a b w hj hn ha hb h40 k1 g1 g2 g3
  by_cases k2 : 6 < a
  · by_cases g1 : doE j 1 now = 0
    · exact jobFree_o2h H A m c j now a b w hj hn ha hb h40 k2 g1
    cases g2 : rightJ j with
    | false => exact jobFree_o2n H A m c j now a b w hj hn ha hb h40 k2 g1 g2
    | true =>
    rcases do_three (j := j) (now := now) 6 with g3 | g3 | g3
    · exact jobFree_o2c H A m c j now a b w hj hn ha hb h40 k2 g1 g2 g3
    · exact jobFree_o2a H A m c j now a b w hj hn ha hb h40 k2 g1 g2 g3
    · exact jobFree_o2e H A m c j now a b w hj hn ha hb h40 k2 g1 g2 g3
  by_cases k3 : a = b
  · by_cases g1 : doE j 1 now = 0
    · exact jobFree_i1h H A m c j now a b w hj hn ha hb h40 (by omega) (by omega) k3 g1
    cases g2 : rightJ j with
    | false => exact jobFree_i1n H A m c j now a b w hj hn ha hb h40 (by omega) (by omega) k3 g1 g2
    | true =>
    rcases do_three (j := j) (now := now) 6 with g3 | g3 | g3
    · exact jobFree_i1c H A m c j now a b w hj hn ha hb h40 (by omega) (by omega) k3 g1 g2 g3
    · exact jobFree_i1a H A m c j now a b w hj hn ha hb h40 (by omega) (by omega) k3 g1 g2 g3
    · exact jobFree_i1e H A m c j now a b w hj hn ha hb h40 (by omega) (by omega) k3 g1 g2 g3
  · by_cases g1 : doE j 1 now = 0
    · exact jobFree_i2h H A m c j now a b w hj hn ha hb h40 (by omega) (by omega) k3 g1
    cases g2 : rightJ j with
    | false => exact jobFree_i2n H A m c j now a b w hj hn ha hb h40 (by omega) (by omega) k3 g1 g2
    | true =>
    rcases do_three (j := j) (now := now) 6 with g3 | g3 | g3
    · exact jobFree_i2c H A m c j now a b w hj hn ha hb h40 (by omega) (by omega) k3 g1 g2 g3
    · exact jobFree_i2a H A m c j now a b w hj hn ha hb h40 (by omega) (by omega) k3 g1 g2 g3
    · exact jobFree_i2e H A m c j now a b w hj hn ha hb h40 (by omega) (by omega) k3 g1 g2 g3

end Go.Proofs.Ytpaabeadiokgoaa
