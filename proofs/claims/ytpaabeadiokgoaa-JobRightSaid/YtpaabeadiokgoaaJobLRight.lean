/- The statement JobRight, as a walk over the contracts. Written by gen/gen_joblaws.py. -/
import Derived.Test.YtpaabeadiokgoaaJobAwake
import Derived.Test.YtpaabeadiokgoaaJobLawMath
import Derived.Test.YtpaabeadiokgoaaJobRefD
namespace Go.Proofs.Ytpaabeadiokgoaa
open Go.RowKit

set_option maxRecDepth 100000 in
set_option maxHeartbeats 8000000 in
theorem jobRight_l (H : JobOk) (A : Option Addr) (m c : Nat) (j : Jb) (what now st : Int) (w : World) (hj : JAsk w A m c j) (hw : I64 what) (hn : I64 now) (hs : I64 st) (h40 : 40 < m) :
    Calls Try.prog 3 #[.agg #[.int .i64 j.id, .int .i64 j.spec.nodes, .int .i64 j.spec.cores, .int .i64 j.spec.gpus, .string j.spec.tag, .bool j.spec.whole, .int .i64 j.spec.long, .int .i64 j.spec.prio, .slice A m c, .int .i64 j.state, .int .i64 j.came, .int .i64 j.frm, .int .i64 j.to], .int .i64 what, .int .i64 now, .int .i64 st] w fun e w' => e = .returned (.bool true) ∧ Below w.heap.size w w' := by
  obtain ⟨W, hW⟩ : ∃ W, W = w.alloc (jO j A m c) := ⟨_, rfl⟩
  have BX : Hid (BoxJ W w.heap.size j A m c) := Lib.hid (by rw [hW]; exact boxJ_new w j A m c)
  have hb0 : Below w.heap.size w W := by rw [hW]; exact (Below.refl _ _).alloc (Nat.le_refl _) _
  have HB := Lib.hid hb0
  have JA := Lib.hid (hj.next hb0)
  unfold jO at hW
  have h40d : decide ((40 : Int) < (m : Int)) = true := by simp; omega
  have _u1 := hw
  have _u2 := hn
  have _u3 := hs
  clear _u1 _u2 _u3
  clear hb0 hj hw hn hs JA
  go_enter Try.func3, Try.ntmps3
  go_wp2_with fail
  rw [← hW]
  refine (awake11_any H _).mono ?_
  rintro e w1 ⟨rfl, hb⟩
  have HBq := Lib.hid (HB.out.trans (hb.mono HB.out.size))
  clear HB
  have HB := HBq
  clear HBq
  have BXq := Lib.hid (BX.out.next hb)
  clear BX
  have BX := BXq
  clear BXq
  clear hb
  clear hW
  have q0 := BX.out.c0
  have q1 := BX.out.c1
  have q2 := BX.out.c2
  have q3 := BX.out.c3
  have q4 := BX.out.c4
  have q5 := BX.out.c5
  have q6 := BX.out.c6
  have q7 := BX.out.c7
  have q8 := BX.out.c8
  have q9 := BX.out.c9
  have q10 := BX.out.c10
  have q11 := BX.out.c11
  have q12 := BX.out.c12
  go_wp2
  go_ret
  exact ⟨rfl, HB.out⟩

set_option maxRecDepth 100000 in
set_option maxHeartbeats 8000000 in
theorem jobRight_0 (H : JobOk) (A : Option Addr) (m c : Nat) (j : Jb) (what now st : Int) (w : World) (hj : JAsk w A m c j) (hw : I64 what) (hn : I64 now) (hs : I64 st) (h40 : ¬ 40 < m) (h1 : st < 0) :
    Calls Try.prog 3 #[.agg #[.int .i64 j.id, .int .i64 j.spec.nodes, .int .i64 j.spec.cores, .int .i64 j.spec.gpus, .string j.spec.tag, .bool j.spec.whole, .int .i64 j.spec.long, .int .i64 j.spec.prio, .slice A m c, .int .i64 j.state, .int .i64 j.came, .int .i64 j.frm, .int .i64 j.to], .int .i64 what, .int .i64 now, .int .i64 st] w fun e w' => e = .returned (.bool true) ∧ Below w.heap.size w w' := by
  obtain ⟨W, hW⟩ : ∃ W, W = w.alloc (jO j A m c) := ⟨_, rfl⟩
  have BX : Hid (BoxJ W w.heap.size j A m c) := Lib.hid (by rw [hW]; exact boxJ_new w j A m c)
  have hb0 : Below w.heap.size w W := by rw [hW]; exact (Below.refl _ _).alloc (Nat.le_refl _) _
  have HB := Lib.hid hb0
  have JA := Lib.hid (hj.next hb0)
  unfold jO at hW
  have d1 : decide (0 ≤ st) = false := decide_eq_false (by omega)
  have d3 : decide (3 ≤ st) = false := decide_eq_false (by omega)
  have hov : overJ st = false := decide_eq_false (by omega)
  have hnm : nameJ st = ⟨#[]⟩ := name_out (by omega)
  clear h1
  have h40d : decide ((40 : Int) < (m : Int)) = false := by simp; omega
  have hmm : m ≤ 100 := by omega
  have IW := Lib.hid hw
  have IN := Lib.hid hn
  have IS := Lib.hid hs
  have OV := Lib.hid hov
  have NM := Lib.hid hnm
  obtain ⟨v, hv⟩ : ∃ v, rightJ j = v := ⟨_, rfl⟩
  obtain ⟨k, hk⟩ : ∃ k, doJ j what now = k := ⟨_, rfl⟩
  obtain ⟨er, he⟩ : ∃ e, doE j what now = e := ⟨_, rfl⟩
  have RV := Lib.hid hv
  have EK := Lib.hid hk
  have EE := Lib.hid he
  clear hb0 hj hw hn hs h40 hov hnm hv hk he
  go_enter Try.func3, Try.ntmps3
  go_wp2_with fail
  rw [← hW]
  refine (awake11_any H _).mono ?_
  rintro e w1 ⟨rfl, hb⟩
  have HBq := Lib.hid (HB.out.trans (hb.mono HB.out.size))
  clear HB
  have HB := HBq
  clear HBq
  have BXq := Lib.hid (BX.out.next hb)
  clear BX
  have BX := BXq
  clear BXq
  have JAq := Lib.hid (JA.out.next hb)
  clear JA
  have JA := JAq
  clear JAq
  clear hb
  clear hW
  have q0 := BX.out.c0
  have q1 := BX.out.c1
  have q2 := BX.out.c2
  have q3 := BX.out.c3
  have q4 := BX.out.c4
  have q5 := BX.out.c5
  have q6 := BX.out.c6
  have q7 := BX.out.c7
  have q8 := BX.out.c8
  have q9 := BX.out.c9
  have q10 := BX.out.c10
  have q11 := BX.out.c11
  have q12 := BX.out.c12
  go_wp2_with fail
  refine (h11_do H JA.out hmm IW.out IN.out EK.out EE.out).mono ?_
  rintro e w2 ⟨⟨A1, m1, c1, rfl, hj1⟩, hb⟩
  have HBq := Lib.hid (HB.out.trans (hb.mono HB.out.size))
  clear HB
  have HB := HBq
  clear HBq
  have BXq := Lib.hid (BX.out.next hb)
  clear BX
  have BX := BXq
  clear BXq
  have JAq := Lib.hid (JA.out.next hb)
  clear JA
  have JA := JAq
  clear JAq
  clear hb
  have J1 := Lib.hid hj1
  clear hj1
  clear q0 q1 q2 q3 q4 q5 q6 q7 q8 q9 q10 q11 q12
  have hb := Below.alloc (Below.refl w2.heap.size w2) (Nat.le_refl _) (.cells #[.int .i64 k.id, .int .i64 k.spec.nodes, .int .i64 k.spec.cores, .int .i64 k.spec.gpus, .string k.spec.tag, .bool k.spec.whole, .int .i64 k.spec.long, .int .i64 k.spec.prio, .slice A1 m1 c1, .int .i64 k.state, .int .i64 k.came, .int .i64 k.frm, .int .i64 k.to] 26)
  have B1q := Lib.hid (boxJ_new w2 k A1 m1 c1)
  have HBq := Lib.hid (HB.out.trans (hb.mono HB.out.size))
  clear HB
  have HB := HBq
  clear HBq
  have BXq := Lib.hid (BX.out.next hb)
  clear BX
  have BX := BXq
  clear BXq
  have JAq := Lib.hid (JA.out.next hb)
  clear JA
  have JA := JAq
  clear JAq
  have J1q := Lib.hid (J1.out.next hb)
  clear J1
  have J1 := J1q
  clear J1q
  clear hb
  have B1 := B1q
  clear B1q
  have q0 := BX.out.c0
  have q1 := BX.out.c1
  have q2 := BX.out.c2
  have q3 := BX.out.c3
  have q4 := BX.out.c4
  have q5 := BX.out.c5
  have q6 := BX.out.c6
  have q7 := BX.out.c7
  have q8 := BX.out.c8
  have q9 := BX.out.c9
  have q10 := BX.out.c10
  have q11 := BX.out.c11
  have q12 := BX.out.c12
  go_wp2_with fail
  refine (refDoJ_b JA.out IN.out EK.out EE.out).mono ?_
  rintro e w3 ⟨⟨A2, m2, c2, rfl, hj2⟩, hb⟩
  have HBq := Lib.hid (HB.out.trans (hb.mono HB.out.size))
  clear HB
  have HB := HBq
  clear HBq
  have BXq := Lib.hid (BX.out.next hb)
  clear BX
  have BX := BXq
  clear BXq
  have JAq := Lib.hid (JA.out.next hb)
  clear JA
  have JA := JAq
  clear JAq
  have J1q := Lib.hid (J1.out.next hb)
  clear J1
  have J1 := J1q
  clear J1q
  have B1q := Lib.hid (B1.out.next hb)
  clear B1
  have B1 := B1q
  clear B1q
  clear hb
  have J2 := Lib.hid hj2
  clear hj2
  clear q0 q1 q2 q3 q4 q5 q6 q7 q8 q9 q10 q11 q12
  have hb := Below.alloc (Below.refl w3.heap.size w3) (Nat.le_refl _) (.cells #[.int .i64 k.id, .int .i64 k.spec.nodes, .int .i64 k.spec.cores, .int .i64 k.spec.gpus, .string k.spec.tag, .bool k.spec.whole, .int .i64 k.spec.long, .int .i64 k.spec.prio, .slice A2 m2 c2, .int .i64 k.state, .int .i64 k.came, .int .i64 k.frm, .int .i64 k.to] 26)
  have B2q := Lib.hid (boxJ_new w3 k A2 m2 c2)
  have HBq := Lib.hid (HB.out.trans (hb.mono HB.out.size))
  clear HB
  have HB := HBq
  clear HBq
  have BXq := Lib.hid (BX.out.next hb)
  clear BX
  have BX := BXq
  clear BXq
  have JAq := Lib.hid (JA.out.next hb)
  clear JA
  have JA := JAq
  clear JAq
  have J1q := Lib.hid (J1.out.next hb)
  clear J1
  have J1 := J1q
  clear J1q
  have B1q := Lib.hid (B1.out.next hb)
  clear B1
  have B1 := B1q
  clear B1q
  have J2q := Lib.hid (J2.out.next hb)
  clear J2
  have J2 := J2q
  clear J2q
  clear hb
  have B2 := B2q
  clear B2q
  have q0 := BX.out.c0
  have q1 := BX.out.c1
  have q2 := BX.out.c2
  have q3 := BX.out.c3
  have q4 := BX.out.c4
  have q5 := BX.out.c5
  have q6 := BX.out.c6
  have q7 := BX.out.c7
  have q8 := BX.out.c8
  have q9 := BX.out.c9
  have q10 := BX.out.c10
  have q11 := BX.out.c11
  have q12 := BX.out.c12
  have r0 := B1.out.c0
  have r1 := B1.out.c1
  have r2 := B1.out.c2
  have r3 := B1.out.c3
  have r4 := B1.out.c4
  have r5 := B1.out.c5
  have r6 := B1.out.c6
  have r7 := B1.out.c7
  have r8 := B1.out.c8
  have r9 := B1.out.c9
  have r10 := B1.out.c10
  have r11 := B1.out.c11
  have r12 := B1.out.c12
  have s0 := B2.out.c0
  have s1 := B2.out.c1
  have s2 := B2.out.c2
  have s3 := B2.out.c3
  have s4 := B2.out.c4
  have s5 := B2.out.c5
  have s6 := B2.out.c6
  have s7 := B2.out.c7
  have s8 := B2.out.c8
  have s9 := B2.out.c9
  have s10 := B2.out.c10
  have s11 := B2.out.c11
  have s12 := B2.out.c12
  go_wp2
  have zc0 : ∀ p : Later (w3.alloc (.cells #[.int .i64 k.id, .int .i64 k.spec.nodes, .int .i64 k.spec.cores, .int .i64 k.spec.gpus, .string k.spec.tag, .bool k.spec.whole, .int .i64 k.spec.long, .int .i64 k.spec.prio, .slice A2 m2 c2, .int .i64 k.state, .int .i64 k.came, .int .i64 k.frm, .int .i64 k.to] 26)), p.now.cell? ⟨w.heap.size, 0, none⟩ = some (.int .i64 j.id) := fun _ => Later.cell BX.out.lt BX.out.c0
  have zc1 : ∀ p : Later (w3.alloc (.cells #[.int .i64 k.id, .int .i64 k.spec.nodes, .int .i64 k.spec.cores, .int .i64 k.spec.gpus, .string k.spec.tag, .bool k.spec.whole, .int .i64 k.spec.long, .int .i64 k.spec.prio, .slice A2 m2 c2, .int .i64 k.state, .int .i64 k.came, .int .i64 k.frm, .int .i64 k.to] 26)), p.now.cell? ⟨w.heap.size, 1, none⟩ = some (.int .i64 j.spec.nodes) := fun _ => Later.cell BX.out.lt BX.out.c1
  have zc2 : ∀ p : Later (w3.alloc (.cells #[.int .i64 k.id, .int .i64 k.spec.nodes, .int .i64 k.spec.cores, .int .i64 k.spec.gpus, .string k.spec.tag, .bool k.spec.whole, .int .i64 k.spec.long, .int .i64 k.spec.prio, .slice A2 m2 c2, .int .i64 k.state, .int .i64 k.came, .int .i64 k.frm, .int .i64 k.to] 26)), p.now.cell? ⟨w.heap.size, 2, none⟩ = some (.int .i64 j.spec.cores) := fun _ => Later.cell BX.out.lt BX.out.c2
  have zc3 : ∀ p : Later (w3.alloc (.cells #[.int .i64 k.id, .int .i64 k.spec.nodes, .int .i64 k.spec.cores, .int .i64 k.spec.gpus, .string k.spec.tag, .bool k.spec.whole, .int .i64 k.spec.long, .int .i64 k.spec.prio, .slice A2 m2 c2, .int .i64 k.state, .int .i64 k.came, .int .i64 k.frm, .int .i64 k.to] 26)), p.now.cell? ⟨w.heap.size, 3, none⟩ = some (.int .i64 j.spec.gpus) := fun _ => Later.cell BX.out.lt BX.out.c3
  have zc4 : ∀ p : Later (w3.alloc (.cells #[.int .i64 k.id, .int .i64 k.spec.nodes, .int .i64 k.spec.cores, .int .i64 k.spec.gpus, .string k.spec.tag, .bool k.spec.whole, .int .i64 k.spec.long, .int .i64 k.spec.prio, .slice A2 m2 c2, .int .i64 k.state, .int .i64 k.came, .int .i64 k.frm, .int .i64 k.to] 26)), p.now.cell? ⟨w.heap.size, 4, none⟩ = some (.string j.spec.tag) := fun _ => Later.cell BX.out.lt BX.out.c4
  have zc5 : ∀ p : Later (w3.alloc (.cells #[.int .i64 k.id, .int .i64 k.spec.nodes, .int .i64 k.spec.cores, .int .i64 k.spec.gpus, .string k.spec.tag, .bool k.spec.whole, .int .i64 k.spec.long, .int .i64 k.spec.prio, .slice A2 m2 c2, .int .i64 k.state, .int .i64 k.came, .int .i64 k.frm, .int .i64 k.to] 26)), p.now.cell? ⟨w.heap.size, 5, none⟩ = some (.bool j.spec.whole) := fun _ => Later.cell BX.out.lt BX.out.c5
  have zc6 : ∀ p : Later (w3.alloc (.cells #[.int .i64 k.id, .int .i64 k.spec.nodes, .int .i64 k.spec.cores, .int .i64 k.spec.gpus, .string k.spec.tag, .bool k.spec.whole, .int .i64 k.spec.long, .int .i64 k.spec.prio, .slice A2 m2 c2, .int .i64 k.state, .int .i64 k.came, .int .i64 k.frm, .int .i64 k.to] 26)), p.now.cell? ⟨w.heap.size, 6, none⟩ = some (.int .i64 j.spec.long) := fun _ => Later.cell BX.out.lt BX.out.c6
  have zc7 : ∀ p : Later (w3.alloc (.cells #[.int .i64 k.id, .int .i64 k.spec.nodes, .int .i64 k.spec.cores, .int .i64 k.spec.gpus, .string k.spec.tag, .bool k.spec.whole, .int .i64 k.spec.long, .int .i64 k.spec.prio, .slice A2 m2 c2, .int .i64 k.state, .int .i64 k.came, .int .i64 k.frm, .int .i64 k.to] 26)), p.now.cell? ⟨w.heap.size, 7, none⟩ = some (.int .i64 j.spec.prio) := fun _ => Later.cell BX.out.lt BX.out.c7
  have zc8 : ∀ p : Later (w3.alloc (.cells #[.int .i64 k.id, .int .i64 k.spec.nodes, .int .i64 k.spec.cores, .int .i64 k.spec.gpus, .string k.spec.tag, .bool k.spec.whole, .int .i64 k.spec.long, .int .i64 k.spec.prio, .slice A2 m2 c2, .int .i64 k.state, .int .i64 k.came, .int .i64 k.frm, .int .i64 k.to] 26)), p.now.cell? ⟨w.heap.size, 8, none⟩ = some (.slice A m c) := fun _ => Later.cell BX.out.lt BX.out.c8
  have zc9 : ∀ p : Later (w3.alloc (.cells #[.int .i64 k.id, .int .i64 k.spec.nodes, .int .i64 k.spec.cores, .int .i64 k.spec.gpus, .string k.spec.tag, .bool k.spec.whole, .int .i64 k.spec.long, .int .i64 k.spec.prio, .slice A2 m2 c2, .int .i64 k.state, .int .i64 k.came, .int .i64 k.frm, .int .i64 k.to] 26)), p.now.cell? ⟨w.heap.size, 9, none⟩ = some (.int .i64 j.state) := fun _ => Later.cell BX.out.lt BX.out.c9
  have zc10 : ∀ p : Later (w3.alloc (.cells #[.int .i64 k.id, .int .i64 k.spec.nodes, .int .i64 k.spec.cores, .int .i64 k.spec.gpus, .string k.spec.tag, .bool k.spec.whole, .int .i64 k.spec.long, .int .i64 k.spec.prio, .slice A2 m2 c2, .int .i64 k.state, .int .i64 k.came, .int .i64 k.frm, .int .i64 k.to] 26)), p.now.cell? ⟨w.heap.size, 10, none⟩ = some (.int .i64 j.came) := fun _ => Later.cell BX.out.lt BX.out.c10
  have zc11 : ∀ p : Later (w3.alloc (.cells #[.int .i64 k.id, .int .i64 k.spec.nodes, .int .i64 k.spec.cores, .int .i64 k.spec.gpus, .string k.spec.tag, .bool k.spec.whole, .int .i64 k.spec.long, .int .i64 k.spec.prio, .slice A2 m2 c2, .int .i64 k.state, .int .i64 k.came, .int .i64 k.frm, .int .i64 k.to] 26)), p.now.cell? ⟨w.heap.size, 11, none⟩ = some (.int .i64 j.frm) := fun _ => Later.cell BX.out.lt BX.out.c11
  have zc12 : ∀ p : Later (w3.alloc (.cells #[.int .i64 k.id, .int .i64 k.spec.nodes, .int .i64 k.spec.cores, .int .i64 k.spec.gpus, .string k.spec.tag, .bool k.spec.whole, .int .i64 k.spec.long, .int .i64 k.spec.prio, .slice A2 m2 c2, .int .i64 k.state, .int .i64 k.came, .int .i64 k.frm, .int .i64 k.to] 26)), p.now.cell? ⟨w.heap.size, 12, none⟩ = some (.int .i64 j.to) := fun _ => Later.cell BX.out.lt BX.out.c12
  have zc13 : ∀ p : Later (w3.alloc (.cells #[.int .i64 k.id, .int .i64 k.spec.nodes, .int .i64 k.spec.cores, .int .i64 k.spec.gpus, .string k.spec.tag, .bool k.spec.whole, .int .i64 k.spec.long, .int .i64 k.spec.prio, .slice A2 m2 c2, .int .i64 k.state, .int .i64 k.came, .int .i64 k.frm, .int .i64 k.to] 26)), p.now.cell? ⟨w2.heap.size, 0, none⟩ = some (.int .i64 k.id) := fun _ => Later.cell B1.out.lt B1.out.c0
  have zc14 : ∀ p : Later (w3.alloc (.cells #[.int .i64 k.id, .int .i64 k.spec.nodes, .int .i64 k.spec.cores, .int .i64 k.spec.gpus, .string k.spec.tag, .bool k.spec.whole, .int .i64 k.spec.long, .int .i64 k.spec.prio, .slice A2 m2 c2, .int .i64 k.state, .int .i64 k.came, .int .i64 k.frm, .int .i64 k.to] 26)), p.now.cell? ⟨w2.heap.size, 1, none⟩ = some (.int .i64 k.spec.nodes) := fun _ => Later.cell B1.out.lt B1.out.c1
  have zc15 : ∀ p : Later (w3.alloc (.cells #[.int .i64 k.id, .int .i64 k.spec.nodes, .int .i64 k.spec.cores, .int .i64 k.spec.gpus, .string k.spec.tag, .bool k.spec.whole, .int .i64 k.spec.long, .int .i64 k.spec.prio, .slice A2 m2 c2, .int .i64 k.state, .int .i64 k.came, .int .i64 k.frm, .int .i64 k.to] 26)), p.now.cell? ⟨w2.heap.size, 2, none⟩ = some (.int .i64 k.spec.cores) := fun _ => Later.cell B1.out.lt B1.out.c2
  have zc16 : ∀ p : Later (w3.alloc (.cells #[.int .i64 k.id, .int .i64 k.spec.nodes, .int .i64 k.spec.cores, .int .i64 k.spec.gpus, .string k.spec.tag, .bool k.spec.whole, .int .i64 k.spec.long, .int .i64 k.spec.prio, .slice A2 m2 c2, .int .i64 k.state, .int .i64 k.came, .int .i64 k.frm, .int .i64 k.to] 26)), p.now.cell? ⟨w2.heap.size, 3, none⟩ = some (.int .i64 k.spec.gpus) := fun _ => Later.cell B1.out.lt B1.out.c3
  have zc17 : ∀ p : Later (w3.alloc (.cells #[.int .i64 k.id, .int .i64 k.spec.nodes, .int .i64 k.spec.cores, .int .i64 k.spec.gpus, .string k.spec.tag, .bool k.spec.whole, .int .i64 k.spec.long, .int .i64 k.spec.prio, .slice A2 m2 c2, .int .i64 k.state, .int .i64 k.came, .int .i64 k.frm, .int .i64 k.to] 26)), p.now.cell? ⟨w2.heap.size, 4, none⟩ = some (.string k.spec.tag) := fun _ => Later.cell B1.out.lt B1.out.c4
  have zc18 : ∀ p : Later (w3.alloc (.cells #[.int .i64 k.id, .int .i64 k.spec.nodes, .int .i64 k.spec.cores, .int .i64 k.spec.gpus, .string k.spec.tag, .bool k.spec.whole, .int .i64 k.spec.long, .int .i64 k.spec.prio, .slice A2 m2 c2, .int .i64 k.state, .int .i64 k.came, .int .i64 k.frm, .int .i64 k.to] 26)), p.now.cell? ⟨w2.heap.size, 5, none⟩ = some (.bool k.spec.whole) := fun _ => Later.cell B1.out.lt B1.out.c5
  have zc19 : ∀ p : Later (w3.alloc (.cells #[.int .i64 k.id, .int .i64 k.spec.nodes, .int .i64 k.spec.cores, .int .i64 k.spec.gpus, .string k.spec.tag, .bool k.spec.whole, .int .i64 k.spec.long, .int .i64 k.spec.prio, .slice A2 m2 c2, .int .i64 k.state, .int .i64 k.came, .int .i64 k.frm, .int .i64 k.to] 26)), p.now.cell? ⟨w2.heap.size, 6, none⟩ = some (.int .i64 k.spec.long) := fun _ => Later.cell B1.out.lt B1.out.c6
  have zc20 : ∀ p : Later (w3.alloc (.cells #[.int .i64 k.id, .int .i64 k.spec.nodes, .int .i64 k.spec.cores, .int .i64 k.spec.gpus, .string k.spec.tag, .bool k.spec.whole, .int .i64 k.spec.long, .int .i64 k.spec.prio, .slice A2 m2 c2, .int .i64 k.state, .int .i64 k.came, .int .i64 k.frm, .int .i64 k.to] 26)), p.now.cell? ⟨w2.heap.size, 7, none⟩ = some (.int .i64 k.spec.prio) := fun _ => Later.cell B1.out.lt B1.out.c7
  have zc21 : ∀ p : Later (w3.alloc (.cells #[.int .i64 k.id, .int .i64 k.spec.nodes, .int .i64 k.spec.cores, .int .i64 k.spec.gpus, .string k.spec.tag, .bool k.spec.whole, .int .i64 k.spec.long, .int .i64 k.spec.prio, .slice A2 m2 c2, .int .i64 k.state, .int .i64 k.came, .int .i64 k.frm, .int .i64 k.to] 26)), p.now.cell? ⟨w2.heap.size, 8, none⟩ = some (.slice A1 m1 c1) := fun _ => Later.cell B1.out.lt B1.out.c8
  have zc22 : ∀ p : Later (w3.alloc (.cells #[.int .i64 k.id, .int .i64 k.spec.nodes, .int .i64 k.spec.cores, .int .i64 k.spec.gpus, .string k.spec.tag, .bool k.spec.whole, .int .i64 k.spec.long, .int .i64 k.spec.prio, .slice A2 m2 c2, .int .i64 k.state, .int .i64 k.came, .int .i64 k.frm, .int .i64 k.to] 26)), p.now.cell? ⟨w2.heap.size, 9, none⟩ = some (.int .i64 k.state) := fun _ => Later.cell B1.out.lt B1.out.c9
  have zc23 : ∀ p : Later (w3.alloc (.cells #[.int .i64 k.id, .int .i64 k.spec.nodes, .int .i64 k.spec.cores, .int .i64 k.spec.gpus, .string k.spec.tag, .bool k.spec.whole, .int .i64 k.spec.long, .int .i64 k.spec.prio, .slice A2 m2 c2, .int .i64 k.state, .int .i64 k.came, .int .i64 k.frm, .int .i64 k.to] 26)), p.now.cell? ⟨w2.heap.size, 10, none⟩ = some (.int .i64 k.came) := fun _ => Later.cell B1.out.lt B1.out.c10
  have zc24 : ∀ p : Later (w3.alloc (.cells #[.int .i64 k.id, .int .i64 k.spec.nodes, .int .i64 k.spec.cores, .int .i64 k.spec.gpus, .string k.spec.tag, .bool k.spec.whole, .int .i64 k.spec.long, .int .i64 k.spec.prio, .slice A2 m2 c2, .int .i64 k.state, .int .i64 k.came, .int .i64 k.frm, .int .i64 k.to] 26)), p.now.cell? ⟨w2.heap.size, 11, none⟩ = some (.int .i64 k.frm) := fun _ => Later.cell B1.out.lt B1.out.c11
  have zc25 : ∀ p : Later (w3.alloc (.cells #[.int .i64 k.id, .int .i64 k.spec.nodes, .int .i64 k.spec.cores, .int .i64 k.spec.gpus, .string k.spec.tag, .bool k.spec.whole, .int .i64 k.spec.long, .int .i64 k.spec.prio, .slice A2 m2 c2, .int .i64 k.state, .int .i64 k.came, .int .i64 k.frm, .int .i64 k.to] 26)), p.now.cell? ⟨w2.heap.size, 12, none⟩ = some (.int .i64 k.to) := fun _ => Later.cell B1.out.lt B1.out.c12
  have zc26 : ∀ p : Later (w3.alloc (.cells #[.int .i64 k.id, .int .i64 k.spec.nodes, .int .i64 k.spec.cores, .int .i64 k.spec.gpus, .string k.spec.tag, .bool k.spec.whole, .int .i64 k.spec.long, .int .i64 k.spec.prio, .slice A2 m2 c2, .int .i64 k.state, .int .i64 k.came, .int .i64 k.frm, .int .i64 k.to] 26)), p.now.cell? ⟨w3.heap.size, 0, none⟩ = some (.int .i64 k.id) := fun _ => Later.cell B2.out.lt B2.out.c0
  have zc27 : ∀ p : Later (w3.alloc (.cells #[.int .i64 k.id, .int .i64 k.spec.nodes, .int .i64 k.spec.cores, .int .i64 k.spec.gpus, .string k.spec.tag, .bool k.spec.whole, .int .i64 k.spec.long, .int .i64 k.spec.prio, .slice A2 m2 c2, .int .i64 k.state, .int .i64 k.came, .int .i64 k.frm, .int .i64 k.to] 26)), p.now.cell? ⟨w3.heap.size, 1, none⟩ = some (.int .i64 k.spec.nodes) := fun _ => Later.cell B2.out.lt B2.out.c1
  have zc28 : ∀ p : Later (w3.alloc (.cells #[.int .i64 k.id, .int .i64 k.spec.nodes, .int .i64 k.spec.cores, .int .i64 k.spec.gpus, .string k.spec.tag, .bool k.spec.whole, .int .i64 k.spec.long, .int .i64 k.spec.prio, .slice A2 m2 c2, .int .i64 k.state, .int .i64 k.came, .int .i64 k.frm, .int .i64 k.to] 26)), p.now.cell? ⟨w3.heap.size, 2, none⟩ = some (.int .i64 k.spec.cores) := fun _ => Later.cell B2.out.lt B2.out.c2
  have zc29 : ∀ p : Later (w3.alloc (.cells #[.int .i64 k.id, .int .i64 k.spec.nodes, .int .i64 k.spec.cores, .int .i64 k.spec.gpus, .string k.spec.tag, .bool k.spec.whole, .int .i64 k.spec.long, .int .i64 k.spec.prio, .slice A2 m2 c2, .int .i64 k.state, .int .i64 k.came, .int .i64 k.frm, .int .i64 k.to] 26)), p.now.cell? ⟨w3.heap.size, 3, none⟩ = some (.int .i64 k.spec.gpus) := fun _ => Later.cell B2.out.lt B2.out.c3
  have zc30 : ∀ p : Later (w3.alloc (.cells #[.int .i64 k.id, .int .i64 k.spec.nodes, .int .i64 k.spec.cores, .int .i64 k.spec.gpus, .string k.spec.tag, .bool k.spec.whole, .int .i64 k.spec.long, .int .i64 k.spec.prio, .slice A2 m2 c2, .int .i64 k.state, .int .i64 k.came, .int .i64 k.frm, .int .i64 k.to] 26)), p.now.cell? ⟨w3.heap.size, 4, none⟩ = some (.string k.spec.tag) := fun _ => Later.cell B2.out.lt B2.out.c4
  have zc31 : ∀ p : Later (w3.alloc (.cells #[.int .i64 k.id, .int .i64 k.spec.nodes, .int .i64 k.spec.cores, .int .i64 k.spec.gpus, .string k.spec.tag, .bool k.spec.whole, .int .i64 k.spec.long, .int .i64 k.spec.prio, .slice A2 m2 c2, .int .i64 k.state, .int .i64 k.came, .int .i64 k.frm, .int .i64 k.to] 26)), p.now.cell? ⟨w3.heap.size, 5, none⟩ = some (.bool k.spec.whole) := fun _ => Later.cell B2.out.lt B2.out.c5
  have zc32 : ∀ p : Later (w3.alloc (.cells #[.int .i64 k.id, .int .i64 k.spec.nodes, .int .i64 k.spec.cores, .int .i64 k.spec.gpus, .string k.spec.tag, .bool k.spec.whole, .int .i64 k.spec.long, .int .i64 k.spec.prio, .slice A2 m2 c2, .int .i64 k.state, .int .i64 k.came, .int .i64 k.frm, .int .i64 k.to] 26)), p.now.cell? ⟨w3.heap.size, 6, none⟩ = some (.int .i64 k.spec.long) := fun _ => Later.cell B2.out.lt B2.out.c6
  have zc33 : ∀ p : Later (w3.alloc (.cells #[.int .i64 k.id, .int .i64 k.spec.nodes, .int .i64 k.spec.cores, .int .i64 k.spec.gpus, .string k.spec.tag, .bool k.spec.whole, .int .i64 k.spec.long, .int .i64 k.spec.prio, .slice A2 m2 c2, .int .i64 k.state, .int .i64 k.came, .int .i64 k.frm, .int .i64 k.to] 26)), p.now.cell? ⟨w3.heap.size, 7, none⟩ = some (.int .i64 k.spec.prio) := fun _ => Later.cell B2.out.lt B2.out.c7
  have zc34 : ∀ p : Later (w3.alloc (.cells #[.int .i64 k.id, .int .i64 k.spec.nodes, .int .i64 k.spec.cores, .int .i64 k.spec.gpus, .string k.spec.tag, .bool k.spec.whole, .int .i64 k.spec.long, .int .i64 k.spec.prio, .slice A2 m2 c2, .int .i64 k.state, .int .i64 k.came, .int .i64 k.frm, .int .i64 k.to] 26)), p.now.cell? ⟨w3.heap.size, 8, none⟩ = some (.slice A2 m2 c2) := fun _ => Later.cell B2.out.lt B2.out.c8
  have zc35 : ∀ p : Later (w3.alloc (.cells #[.int .i64 k.id, .int .i64 k.spec.nodes, .int .i64 k.spec.cores, .int .i64 k.spec.gpus, .string k.spec.tag, .bool k.spec.whole, .int .i64 k.spec.long, .int .i64 k.spec.prio, .slice A2 m2 c2, .int .i64 k.state, .int .i64 k.came, .int .i64 k.frm, .int .i64 k.to] 26)), p.now.cell? ⟨w3.heap.size, 9, none⟩ = some (.int .i64 k.state) := fun _ => Later.cell B2.out.lt B2.out.c9
  have zc36 : ∀ p : Later (w3.alloc (.cells #[.int .i64 k.id, .int .i64 k.spec.nodes, .int .i64 k.spec.cores, .int .i64 k.spec.gpus, .string k.spec.tag, .bool k.spec.whole, .int .i64 k.spec.long, .int .i64 k.spec.prio, .slice A2 m2 c2, .int .i64 k.state, .int .i64 k.came, .int .i64 k.frm, .int .i64 k.to] 26)), p.now.cell? ⟨w3.heap.size, 10, none⟩ = some (.int .i64 k.came) := fun _ => Later.cell B2.out.lt B2.out.c10
  have zc37 : ∀ p : Later (w3.alloc (.cells #[.int .i64 k.id, .int .i64 k.spec.nodes, .int .i64 k.spec.cores, .int .i64 k.spec.gpus, .string k.spec.tag, .bool k.spec.whole, .int .i64 k.spec.long, .int .i64 k.spec.prio, .slice A2 m2 c2, .int .i64 k.state, .int .i64 k.came, .int .i64 k.frm, .int .i64 k.to] 26)), p.now.cell? ⟨w3.heap.size, 11, none⟩ = some (.int .i64 k.frm) := fun _ => Later.cell B2.out.lt B2.out.c11
  have zc38 : ∀ p : Later (w3.alloc (.cells #[.int .i64 k.id, .int .i64 k.spec.nodes, .int .i64 k.spec.cores, .int .i64 k.spec.gpus, .string k.spec.tag, .bool k.spec.whole, .int .i64 k.spec.long, .int .i64 k.spec.prio, .slice A2 m2 c2, .int .i64 k.state, .int .i64 k.came, .int .i64 k.frm, .int .i64 k.to] 26)), p.now.cell? ⟨w3.heap.size, 12, none⟩ = some (.int .i64 k.to) := fun _ => Later.cell B2.out.lt B2.out.c12
  refine wp_region_later (by kernel_rfl) (by kernel_rfl) ?_
  repeat (first | go_big_quiet_skip | (go_big_quiet_want; go_big_quiet_op; first | go_big_quiet_on | (apply Exists.intro; refine ⟨fun pz => ?_, ?_⟩; (first | (go_at_call 9; exact Calls.later_of (h11_right H (JA.out.next pz.bel) hmm RV.out)) | (go_at_call 10; exact Calls.later_of (refRightJ_b (JA.out.next pz.bel) RV.out)) | (go_at_call 11; exact Calls.later_of (refSameJ_b (J1.out.next pz.bel) (J2.out.next pz.bel) (sameJ_iff.2 rfl))) | (go_at_call 12; exact Calls.later_of (h11_over H IS.out OV.out)) | (go_at_call 13; exact Calls.later_of (h11_name H IS.out NM.out)) | fail); go_big_quiet_on)))
  refine wpQuiet_nil ?_
  intro _ hw'
  obtain ⟨pz, rfl⟩ := hw'
  obtain ⟨w4, hb⟩ := pz
  try dsimp only
  clear zc0 zc1 zc2 zc3 zc4 zc5 zc6 zc7 zc8 zc9 zc10 zc11 zc12 zc13 zc14 zc15 zc16 zc17 zc18 zc19 zc20 zc21 zc22 zc23 zc24 zc25 zc26 zc27 zc28 zc29 zc30 zc31 zc32 zc33 zc34 zc35 zc36 zc37 zc38
  have HBq := Lib.hid (HB.out.trans (hb.mono HB.out.size))
  clear HB
  have HB := HBq
  clear HBq
  have BXq := Lib.hid (BX.out.next hb)
  clear BX
  have BX := BXq
  clear BXq
  have JAq := Lib.hid (JA.out.next hb)
  clear JA
  have JA := JAq
  clear JAq
  have J1q := Lib.hid (J1.out.next hb)
  clear J1
  have J1 := J1q
  clear J1q
  have B1q := Lib.hid (B1.out.next hb)
  clear B1
  have B1 := B1q
  clear B1q
  have J2q := Lib.hid (J2.out.next hb)
  clear J2
  have J2 := J2q
  clear J2q
  have B2q := Lib.hid (B2.out.next hb)
  clear B2
  have B2 := B2q
  clear B2q
  clear hb
  clear q0 q1 q2 q3 q4 q5 q6 q7 q8 q9 q10 q11 q12 r0 r1 r2 r3 r4 r5 r6 r7 r8 r9 r10 r11 r12 s0 s1 s2 s3 s4 s5 s6 s7 s8 s9 s10 s11 s12
  go_wp2
  go_ret
  exact ⟨rfl, HB.out⟩

set_option maxRecDepth 100000 in
set_option maxHeartbeats 8000000 in
theorem jobRight_1 (H : JobOk) (A : Option Addr) (m c : Nat) (j : Jb) (what now st : Int) (w : World) (hj : JAsk w A m c j) (hw : I64 what) (hn : I64 now) (hs : I64 st) (h40 : ¬ 40 < m) (h1 : 0 ≤ st) (h2 : st < 3) :
    Calls Try.prog 3 #[.agg #[.int .i64 j.id, .int .i64 j.spec.nodes, .int .i64 j.spec.cores, .int .i64 j.spec.gpus, .string j.spec.tag, .bool j.spec.whole, .int .i64 j.spec.long, .int .i64 j.spec.prio, .slice A m c, .int .i64 j.state, .int .i64 j.came, .int .i64 j.frm, .int .i64 j.to], .int .i64 what, .int .i64 now, .int .i64 st] w fun e w' => e = .returned (.bool true) ∧ Below w.heap.size w w' := by
  obtain ⟨W, hW⟩ : ∃ W, W = w.alloc (jO j A m c) := ⟨_, rfl⟩
  have BX : Hid (BoxJ W w.heap.size j A m c) := Lib.hid (by rw [hW]; exact boxJ_new w j A m c)
  have hb0 : Below w.heap.size w W := by rw [hW]; exact (Below.refl _ _).alloc (Nat.le_refl _) _
  have HB := Lib.hid hb0
  have JA := Lib.hid (hj.next hb0)
  unfold jO at hW
  have d1 : decide (0 ≤ st) = true := decide_eq_true h1
  have d2 : decide (st ≤ 6) = true := decide_eq_true (by omega)
  have d3 : decide (3 ≤ st) = false := decide_eq_false (by omega)
  have hov : overJ st = false := decide_eq_false (by omega)
  have hix := name_place h1 (show st ≤ 6 by omega)
  obtain ⟨nm, hnm⟩ : ∃ v, nameJ st = v := ⟨_, rfl⟩
  rw [hnm] at hix
  clear h1 h2
  have h40d : decide ((40 : Int) < (m : Int)) = false := by simp; omega
  have hmm : m ≤ 100 := by omega
  have IW := Lib.hid hw
  have IN := Lib.hid hn
  have IS := Lib.hid hs
  have OV := Lib.hid hov
  have NM := Lib.hid hnm
  obtain ⟨v, hv⟩ : ∃ v, rightJ j = v := ⟨_, rfl⟩
  obtain ⟨k, hk⟩ : ∃ k, doJ j what now = k := ⟨_, rfl⟩
  obtain ⟨er, he⟩ : ∃ e, doE j what now = e := ⟨_, rfl⟩
  have RV := Lib.hid hv
  have EK := Lib.hid hk
  have EE := Lib.hid he
  clear hb0 hj hw hn hs h40 hov hnm hv hk he
  go_enter Try.func3, Try.ntmps3
  go_wp2_with fail
  rw [← hW]
  refine (awake11_any H _).mono ?_
  rintro e w1 ⟨rfl, hb⟩
  have HBq := Lib.hid (HB.out.trans (hb.mono HB.out.size))
  clear HB
  have HB := HBq
  clear HBq
  have BXq := Lib.hid (BX.out.next hb)
  clear BX
  have BX := BXq
  clear BXq
  have JAq := Lib.hid (JA.out.next hb)
  clear JA
  have JA := JAq
  clear JAq
  clear hb
  clear hW
  have q0 := BX.out.c0
  have q1 := BX.out.c1
  have q2 := BX.out.c2
  have q3 := BX.out.c3
  have q4 := BX.out.c4
  have q5 := BX.out.c5
  have q6 := BX.out.c6
  have q7 := BX.out.c7
  have q8 := BX.out.c8
  have q9 := BX.out.c9
  have q10 := BX.out.c10
  have q11 := BX.out.c11
  have q12 := BX.out.c12
  go_wp2_with fail
  refine (h11_do H JA.out hmm IW.out IN.out EK.out EE.out).mono ?_
  rintro e w2 ⟨⟨A1, m1, c1, rfl, hj1⟩, hb⟩
  have HBq := Lib.hid (HB.out.trans (hb.mono HB.out.size))
  clear HB
  have HB := HBq
  clear HBq
  have BXq := Lib.hid (BX.out.next hb)
  clear BX
  have BX := BXq
  clear BXq
  have JAq := Lib.hid (JA.out.next hb)
  clear JA
  have JA := JAq
  clear JAq
  clear hb
  have J1 := Lib.hid hj1
  clear hj1
  clear q0 q1 q2 q3 q4 q5 q6 q7 q8 q9 q10 q11 q12
  have hb := Below.alloc (Below.refl w2.heap.size w2) (Nat.le_refl _) (.cells #[.int .i64 k.id, .int .i64 k.spec.nodes, .int .i64 k.spec.cores, .int .i64 k.spec.gpus, .string k.spec.tag, .bool k.spec.whole, .int .i64 k.spec.long, .int .i64 k.spec.prio, .slice A1 m1 c1, .int .i64 k.state, .int .i64 k.came, .int .i64 k.frm, .int .i64 k.to] 26)
  have B1q := Lib.hid (boxJ_new w2 k A1 m1 c1)
  have HBq := Lib.hid (HB.out.trans (hb.mono HB.out.size))
  clear HB
  have HB := HBq
  clear HBq
  have BXq := Lib.hid (BX.out.next hb)
  clear BX
  have BX := BXq
  clear BXq
  have JAq := Lib.hid (JA.out.next hb)
  clear JA
  have JA := JAq
  clear JAq
  have J1q := Lib.hid (J1.out.next hb)
  clear J1
  have J1 := J1q
  clear J1q
  clear hb
  have B1 := B1q
  clear B1q
  have q0 := BX.out.c0
  have q1 := BX.out.c1
  have q2 := BX.out.c2
  have q3 := BX.out.c3
  have q4 := BX.out.c4
  have q5 := BX.out.c5
  have q6 := BX.out.c6
  have q7 := BX.out.c7
  have q8 := BX.out.c8
  have q9 := BX.out.c9
  have q10 := BX.out.c10
  have q11 := BX.out.c11
  have q12 := BX.out.c12
  go_wp2_with fail
  refine (refDoJ_b JA.out IN.out EK.out EE.out).mono ?_
  rintro e w3 ⟨⟨A2, m2, c2, rfl, hj2⟩, hb⟩
  have HBq := Lib.hid (HB.out.trans (hb.mono HB.out.size))
  clear HB
  have HB := HBq
  clear HBq
  have BXq := Lib.hid (BX.out.next hb)
  clear BX
  have BX := BXq
  clear BXq
  have JAq := Lib.hid (JA.out.next hb)
  clear JA
  have JA := JAq
  clear JAq
  have J1q := Lib.hid (J1.out.next hb)
  clear J1
  have J1 := J1q
  clear J1q
  have B1q := Lib.hid (B1.out.next hb)
  clear B1
  have B1 := B1q
  clear B1q
  clear hb
  have J2 := Lib.hid hj2
  clear hj2
  clear q0 q1 q2 q3 q4 q5 q6 q7 q8 q9 q10 q11 q12
  have hb := Below.alloc (Below.refl w3.heap.size w3) (Nat.le_refl _) (.cells #[.int .i64 k.id, .int .i64 k.spec.nodes, .int .i64 k.spec.cores, .int .i64 k.spec.gpus, .string k.spec.tag, .bool k.spec.whole, .int .i64 k.spec.long, .int .i64 k.spec.prio, .slice A2 m2 c2, .int .i64 k.state, .int .i64 k.came, .int .i64 k.frm, .int .i64 k.to] 26)
  have B2q := Lib.hid (boxJ_new w3 k A2 m2 c2)
  have HBq := Lib.hid (HB.out.trans (hb.mono HB.out.size))
  clear HB
  have HB := HBq
  clear HBq
  have BXq := Lib.hid (BX.out.next hb)
  clear BX
  have BX := BXq
  clear BXq
  have JAq := Lib.hid (JA.out.next hb)
  clear JA
  have JA := JAq
  clear JAq
  have J1q := Lib.hid (J1.out.next hb)
  clear J1
  have J1 := J1q
  clear J1q
  have B1q := Lib.hid (B1.out.next hb)
  clear B1
  have B1 := B1q
  clear B1q
  have J2q := Lib.hid (J2.out.next hb)
  clear J2
  have J2 := J2q
  clear J2q
  clear hb
  have B2 := B2q
  clear B2q
  have q0 := BX.out.c0
  have q1 := BX.out.c1
  have q2 := BX.out.c2
  have q3 := BX.out.c3
  have q4 := BX.out.c4
  have q5 := BX.out.c5
  have q6 := BX.out.c6
  have q7 := BX.out.c7
  have q8 := BX.out.c8
  have q9 := BX.out.c9
  have q10 := BX.out.c10
  have q11 := BX.out.c11
  have q12 := BX.out.c12
  have r0 := B1.out.c0
  have r1 := B1.out.c1
  have r2 := B1.out.c2
  have r3 := B1.out.c3
  have r4 := B1.out.c4
  have r5 := B1.out.c5
  have r6 := B1.out.c6
  have r7 := B1.out.c7
  have r8 := B1.out.c8
  have r9 := B1.out.c9
  have r10 := B1.out.c10
  have r11 := B1.out.c11
  have r12 := B1.out.c12
  have s0 := B2.out.c0
  have s1 := B2.out.c1
  have s2 := B2.out.c2
  have s3 := B2.out.c3
  have s4 := B2.out.c4
  have s5 := B2.out.c5
  have s6 := B2.out.c6
  have s7 := B2.out.c7
  have s8 := B2.out.c8
  have s9 := B2.out.c9
  have s10 := B2.out.c10
  have s11 := B2.out.c11
  have s12 := B2.out.c12
  go_wp2
  have zc0 : ∀ p : Later (w3.alloc (.cells #[.int .i64 k.id, .int .i64 k.spec.nodes, .int .i64 k.spec.cores, .int .i64 k.spec.gpus, .string k.spec.tag, .bool k.spec.whole, .int .i64 k.spec.long, .int .i64 k.spec.prio, .slice A2 m2 c2, .int .i64 k.state, .int .i64 k.came, .int .i64 k.frm, .int .i64 k.to] 26)), p.now.cell? ⟨w.heap.size, 0, none⟩ = some (.int .i64 j.id) := fun _ => Later.cell BX.out.lt BX.out.c0
  have zc1 : ∀ p : Later (w3.alloc (.cells #[.int .i64 k.id, .int .i64 k.spec.nodes, .int .i64 k.spec.cores, .int .i64 k.spec.gpus, .string k.spec.tag, .bool k.spec.whole, .int .i64 k.spec.long, .int .i64 k.spec.prio, .slice A2 m2 c2, .int .i64 k.state, .int .i64 k.came, .int .i64 k.frm, .int .i64 k.to] 26)), p.now.cell? ⟨w.heap.size, 1, none⟩ = some (.int .i64 j.spec.nodes) := fun _ => Later.cell BX.out.lt BX.out.c1
  have zc2 : ∀ p : Later (w3.alloc (.cells #[.int .i64 k.id, .int .i64 k.spec.nodes, .int .i64 k.spec.cores, .int .i64 k.spec.gpus, .string k.spec.tag, .bool k.spec.whole, .int .i64 k.spec.long, .int .i64 k.spec.prio, .slice A2 m2 c2, .int .i64 k.state, .int .i64 k.came, .int .i64 k.frm, .int .i64 k.to] 26)), p.now.cell? ⟨w.heap.size, 2, none⟩ = some (.int .i64 j.spec.cores) := fun _ => Later.cell BX.out.lt BX.out.c2
  have zc3 : ∀ p : Later (w3.alloc (.cells #[.int .i64 k.id, .int .i64 k.spec.nodes, .int .i64 k.spec.cores, .int .i64 k.spec.gpus, .string k.spec.tag, .bool k.spec.whole, .int .i64 k.spec.long, .int .i64 k.spec.prio, .slice A2 m2 c2, .int .i64 k.state, .int .i64 k.came, .int .i64 k.frm, .int .i64 k.to] 26)), p.now.cell? ⟨w.heap.size, 3, none⟩ = some (.int .i64 j.spec.gpus) := fun _ => Later.cell BX.out.lt BX.out.c3
  have zc4 : ∀ p : Later (w3.alloc (.cells #[.int .i64 k.id, .int .i64 k.spec.nodes, .int .i64 k.spec.cores, .int .i64 k.spec.gpus, .string k.spec.tag, .bool k.spec.whole, .int .i64 k.spec.long, .int .i64 k.spec.prio, .slice A2 m2 c2, .int .i64 k.state, .int .i64 k.came, .int .i64 k.frm, .int .i64 k.to] 26)), p.now.cell? ⟨w.heap.size, 4, none⟩ = some (.string j.spec.tag) := fun _ => Later.cell BX.out.lt BX.out.c4
  have zc5 : ∀ p : Later (w3.alloc (.cells #[.int .i64 k.id, .int .i64 k.spec.nodes, .int .i64 k.spec.cores, .int .i64 k.spec.gpus, .string k.spec.tag, .bool k.spec.whole, .int .i64 k.spec.long, .int .i64 k.spec.prio, .slice A2 m2 c2, .int .i64 k.state, .int .i64 k.came, .int .i64 k.frm, .int .i64 k.to] 26)), p.now.cell? ⟨w.heap.size, 5, none⟩ = some (.bool j.spec.whole) := fun _ => Later.cell BX.out.lt BX.out.c5
  have zc6 : ∀ p : Later (w3.alloc (.cells #[.int .i64 k.id, .int .i64 k.spec.nodes, .int .i64 k.spec.cores, .int .i64 k.spec.gpus, .string k.spec.tag, .bool k.spec.whole, .int .i64 k.spec.long, .int .i64 k.spec.prio, .slice A2 m2 c2, .int .i64 k.state, .int .i64 k.came, .int .i64 k.frm, .int .i64 k.to] 26)), p.now.cell? ⟨w.heap.size, 6, none⟩ = some (.int .i64 j.spec.long) := fun _ => Later.cell BX.out.lt BX.out.c6
  have zc7 : ∀ p : Later (w3.alloc (.cells #[.int .i64 k.id, .int .i64 k.spec.nodes, .int .i64 k.spec.cores, .int .i64 k.spec.gpus, .string k.spec.tag, .bool k.spec.whole, .int .i64 k.spec.long, .int .i64 k.spec.prio, .slice A2 m2 c2, .int .i64 k.state, .int .i64 k.came, .int .i64 k.frm, .int .i64 k.to] 26)), p.now.cell? ⟨w.heap.size, 7, none⟩ = some (.int .i64 j.spec.prio) := fun _ => Later.cell BX.out.lt BX.out.c7
  have zc8 : ∀ p : Later (w3.alloc (.cells #[.int .i64 k.id, .int .i64 k.spec.nodes, .int .i64 k.spec.cores, .int .i64 k.spec.gpus, .string k.spec.tag, .bool k.spec.whole, .int .i64 k.spec.long, .int .i64 k.spec.prio, .slice A2 m2 c2, .int .i64 k.state, .int .i64 k.came, .int .i64 k.frm, .int .i64 k.to] 26)), p.now.cell? ⟨w.heap.size, 8, none⟩ = some (.slice A m c) := fun _ => Later.cell BX.out.lt BX.out.c8
  have zc9 : ∀ p : Later (w3.alloc (.cells #[.int .i64 k.id, .int .i64 k.spec.nodes, .int .i64 k.spec.cores, .int .i64 k.spec.gpus, .string k.spec.tag, .bool k.spec.whole, .int .i64 k.spec.long, .int .i64 k.spec.prio, .slice A2 m2 c2, .int .i64 k.state, .int .i64 k.came, .int .i64 k.frm, .int .i64 k.to] 26)), p.now.cell? ⟨w.heap.size, 9, none⟩ = some (.int .i64 j.state) := fun _ => Later.cell BX.out.lt BX.out.c9
  have zc10 : ∀ p : Later (w3.alloc (.cells #[.int .i64 k.id, .int .i64 k.spec.nodes, .int .i64 k.spec.cores, .int .i64 k.spec.gpus, .string k.spec.tag, .bool k.spec.whole, .int .i64 k.spec.long, .int .i64 k.spec.prio, .slice A2 m2 c2, .int .i64 k.state, .int .i64 k.came, .int .i64 k.frm, .int .i64 k.to] 26)), p.now.cell? ⟨w.heap.size, 10, none⟩ = some (.int .i64 j.came) := fun _ => Later.cell BX.out.lt BX.out.c10
  have zc11 : ∀ p : Later (w3.alloc (.cells #[.int .i64 k.id, .int .i64 k.spec.nodes, .int .i64 k.spec.cores, .int .i64 k.spec.gpus, .string k.spec.tag, .bool k.spec.whole, .int .i64 k.spec.long, .int .i64 k.spec.prio, .slice A2 m2 c2, .int .i64 k.state, .int .i64 k.came, .int .i64 k.frm, .int .i64 k.to] 26)), p.now.cell? ⟨w.heap.size, 11, none⟩ = some (.int .i64 j.frm) := fun _ => Later.cell BX.out.lt BX.out.c11
  have zc12 : ∀ p : Later (w3.alloc (.cells #[.int .i64 k.id, .int .i64 k.spec.nodes, .int .i64 k.spec.cores, .int .i64 k.spec.gpus, .string k.spec.tag, .bool k.spec.whole, .int .i64 k.spec.long, .int .i64 k.spec.prio, .slice A2 m2 c2, .int .i64 k.state, .int .i64 k.came, .int .i64 k.frm, .int .i64 k.to] 26)), p.now.cell? ⟨w.heap.size, 12, none⟩ = some (.int .i64 j.to) := fun _ => Later.cell BX.out.lt BX.out.c12
  have zc13 : ∀ p : Later (w3.alloc (.cells #[.int .i64 k.id, .int .i64 k.spec.nodes, .int .i64 k.spec.cores, .int .i64 k.spec.gpus, .string k.spec.tag, .bool k.spec.whole, .int .i64 k.spec.long, .int .i64 k.spec.prio, .slice A2 m2 c2, .int .i64 k.state, .int .i64 k.came, .int .i64 k.frm, .int .i64 k.to] 26)), p.now.cell? ⟨w2.heap.size, 0, none⟩ = some (.int .i64 k.id) := fun _ => Later.cell B1.out.lt B1.out.c0
  have zc14 : ∀ p : Later (w3.alloc (.cells #[.int .i64 k.id, .int .i64 k.spec.nodes, .int .i64 k.spec.cores, .int .i64 k.spec.gpus, .string k.spec.tag, .bool k.spec.whole, .int .i64 k.spec.long, .int .i64 k.spec.prio, .slice A2 m2 c2, .int .i64 k.state, .int .i64 k.came, .int .i64 k.frm, .int .i64 k.to] 26)), p.now.cell? ⟨w2.heap.size, 1, none⟩ = some (.int .i64 k.spec.nodes) := fun _ => Later.cell B1.out.lt B1.out.c1
  have zc15 : ∀ p : Later (w3.alloc (.cells #[.int .i64 k.id, .int .i64 k.spec.nodes, .int .i64 k.spec.cores, .int .i64 k.spec.gpus, .string k.spec.tag, .bool k.spec.whole, .int .i64 k.spec.long, .int .i64 k.spec.prio, .slice A2 m2 c2, .int .i64 k.state, .int .i64 k.came, .int .i64 k.frm, .int .i64 k.to] 26)), p.now.cell? ⟨w2.heap.size, 2, none⟩ = some (.int .i64 k.spec.cores) := fun _ => Later.cell B1.out.lt B1.out.c2
  have zc16 : ∀ p : Later (w3.alloc (.cells #[.int .i64 k.id, .int .i64 k.spec.nodes, .int .i64 k.spec.cores, .int .i64 k.spec.gpus, .string k.spec.tag, .bool k.spec.whole, .int .i64 k.spec.long, .int .i64 k.spec.prio, .slice A2 m2 c2, .int .i64 k.state, .int .i64 k.came, .int .i64 k.frm, .int .i64 k.to] 26)), p.now.cell? ⟨w2.heap.size, 3, none⟩ = some (.int .i64 k.spec.gpus) := fun _ => Later.cell B1.out.lt B1.out.c3
  have zc17 : ∀ p : Later (w3.alloc (.cells #[.int .i64 k.id, .int .i64 k.spec.nodes, .int .i64 k.spec.cores, .int .i64 k.spec.gpus, .string k.spec.tag, .bool k.spec.whole, .int .i64 k.spec.long, .int .i64 k.spec.prio, .slice A2 m2 c2, .int .i64 k.state, .int .i64 k.came, .int .i64 k.frm, .int .i64 k.to] 26)), p.now.cell? ⟨w2.heap.size, 4, none⟩ = some (.string k.spec.tag) := fun _ => Later.cell B1.out.lt B1.out.c4
  have zc18 : ∀ p : Later (w3.alloc (.cells #[.int .i64 k.id, .int .i64 k.spec.nodes, .int .i64 k.spec.cores, .int .i64 k.spec.gpus, .string k.spec.tag, .bool k.spec.whole, .int .i64 k.spec.long, .int .i64 k.spec.prio, .slice A2 m2 c2, .int .i64 k.state, .int .i64 k.came, .int .i64 k.frm, .int .i64 k.to] 26)), p.now.cell? ⟨w2.heap.size, 5, none⟩ = some (.bool k.spec.whole) := fun _ => Later.cell B1.out.lt B1.out.c5
  have zc19 : ∀ p : Later (w3.alloc (.cells #[.int .i64 k.id, .int .i64 k.spec.nodes, .int .i64 k.spec.cores, .int .i64 k.spec.gpus, .string k.spec.tag, .bool k.spec.whole, .int .i64 k.spec.long, .int .i64 k.spec.prio, .slice A2 m2 c2, .int .i64 k.state, .int .i64 k.came, .int .i64 k.frm, .int .i64 k.to] 26)), p.now.cell? ⟨w2.heap.size, 6, none⟩ = some (.int .i64 k.spec.long) := fun _ => Later.cell B1.out.lt B1.out.c6
  have zc20 : ∀ p : Later (w3.alloc (.cells #[.int .i64 k.id, .int .i64 k.spec.nodes, .int .i64 k.spec.cores, .int .i64 k.spec.gpus, .string k.spec.tag, .bool k.spec.whole, .int .i64 k.spec.long, .int .i64 k.spec.prio, .slice A2 m2 c2, .int .i64 k.state, .int .i64 k.came, .int .i64 k.frm, .int .i64 k.to] 26)), p.now.cell? ⟨w2.heap.size, 7, none⟩ = some (.int .i64 k.spec.prio) := fun _ => Later.cell B1.out.lt B1.out.c7
  have zc21 : ∀ p : Later (w3.alloc (.cells #[.int .i64 k.id, .int .i64 k.spec.nodes, .int .i64 k.spec.cores, .int .i64 k.spec.gpus, .string k.spec.tag, .bool k.spec.whole, .int .i64 k.spec.long, .int .i64 k.spec.prio, .slice A2 m2 c2, .int .i64 k.state, .int .i64 k.came, .int .i64 k.frm, .int .i64 k.to] 26)), p.now.cell? ⟨w2.heap.size, 8, none⟩ = some (.slice A1 m1 c1) := fun _ => Later.cell B1.out.lt B1.out.c8
  have zc22 : ∀ p : Later (w3.alloc (.cells #[.int .i64 k.id, .int .i64 k.spec.nodes, .int .i64 k.spec.cores, .int .i64 k.spec.gpus, .string k.spec.tag, .bool k.spec.whole, .int .i64 k.spec.long, .int .i64 k.spec.prio, .slice A2 m2 c2, .int .i64 k.state, .int .i64 k.came, .int .i64 k.frm, .int .i64 k.to] 26)), p.now.cell? ⟨w2.heap.size, 9, none⟩ = some (.int .i64 k.state) := fun _ => Later.cell B1.out.lt B1.out.c9
  have zc23 : ∀ p : Later (w3.alloc (.cells #[.int .i64 k.id, .int .i64 k.spec.nodes, .int .i64 k.spec.cores, .int .i64 k.spec.gpus, .string k.spec.tag, .bool k.spec.whole, .int .i64 k.spec.long, .int .i64 k.spec.prio, .slice A2 m2 c2, .int .i64 k.state, .int .i64 k.came, .int .i64 k.frm, .int .i64 k.to] 26)), p.now.cell? ⟨w2.heap.size, 10, none⟩ = some (.int .i64 k.came) := fun _ => Later.cell B1.out.lt B1.out.c10
  have zc24 : ∀ p : Later (w3.alloc (.cells #[.int .i64 k.id, .int .i64 k.spec.nodes, .int .i64 k.spec.cores, .int .i64 k.spec.gpus, .string k.spec.tag, .bool k.spec.whole, .int .i64 k.spec.long, .int .i64 k.spec.prio, .slice A2 m2 c2, .int .i64 k.state, .int .i64 k.came, .int .i64 k.frm, .int .i64 k.to] 26)), p.now.cell? ⟨w2.heap.size, 11, none⟩ = some (.int .i64 k.frm) := fun _ => Later.cell B1.out.lt B1.out.c11
  have zc25 : ∀ p : Later (w3.alloc (.cells #[.int .i64 k.id, .int .i64 k.spec.nodes, .int .i64 k.spec.cores, .int .i64 k.spec.gpus, .string k.spec.tag, .bool k.spec.whole, .int .i64 k.spec.long, .int .i64 k.spec.prio, .slice A2 m2 c2, .int .i64 k.state, .int .i64 k.came, .int .i64 k.frm, .int .i64 k.to] 26)), p.now.cell? ⟨w2.heap.size, 12, none⟩ = some (.int .i64 k.to) := fun _ => Later.cell B1.out.lt B1.out.c12
  have zc26 : ∀ p : Later (w3.alloc (.cells #[.int .i64 k.id, .int .i64 k.spec.nodes, .int .i64 k.spec.cores, .int .i64 k.spec.gpus, .string k.spec.tag, .bool k.spec.whole, .int .i64 k.spec.long, .int .i64 k.spec.prio, .slice A2 m2 c2, .int .i64 k.state, .int .i64 k.came, .int .i64 k.frm, .int .i64 k.to] 26)), p.now.cell? ⟨w3.heap.size, 0, none⟩ = some (.int .i64 k.id) := fun _ => Later.cell B2.out.lt B2.out.c0
  have zc27 : ∀ p : Later (w3.alloc (.cells #[.int .i64 k.id, .int .i64 k.spec.nodes, .int .i64 k.spec.cores, .int .i64 k.spec.gpus, .string k.spec.tag, .bool k.spec.whole, .int .i64 k.spec.long, .int .i64 k.spec.prio, .slice A2 m2 c2, .int .i64 k.state, .int .i64 k.came, .int .i64 k.frm, .int .i64 k.to] 26)), p.now.cell? ⟨w3.heap.size, 1, none⟩ = some (.int .i64 k.spec.nodes) := fun _ => Later.cell B2.out.lt B2.out.c1
  have zc28 : ∀ p : Later (w3.alloc (.cells #[.int .i64 k.id, .int .i64 k.spec.nodes, .int .i64 k.spec.cores, .int .i64 k.spec.gpus, .string k.spec.tag, .bool k.spec.whole, .int .i64 k.spec.long, .int .i64 k.spec.prio, .slice A2 m2 c2, .int .i64 k.state, .int .i64 k.came, .int .i64 k.frm, .int .i64 k.to] 26)), p.now.cell? ⟨w3.heap.size, 2, none⟩ = some (.int .i64 k.spec.cores) := fun _ => Later.cell B2.out.lt B2.out.c2
  have zc29 : ∀ p : Later (w3.alloc (.cells #[.int .i64 k.id, .int .i64 k.spec.nodes, .int .i64 k.spec.cores, .int .i64 k.spec.gpus, .string k.spec.tag, .bool k.spec.whole, .int .i64 k.spec.long, .int .i64 k.spec.prio, .slice A2 m2 c2, .int .i64 k.state, .int .i64 k.came, .int .i64 k.frm, .int .i64 k.to] 26)), p.now.cell? ⟨w3.heap.size, 3, none⟩ = some (.int .i64 k.spec.gpus) := fun _ => Later.cell B2.out.lt B2.out.c3
  have zc30 : ∀ p : Later (w3.alloc (.cells #[.int .i64 k.id, .int .i64 k.spec.nodes, .int .i64 k.spec.cores, .int .i64 k.spec.gpus, .string k.spec.tag, .bool k.spec.whole, .int .i64 k.spec.long, .int .i64 k.spec.prio, .slice A2 m2 c2, .int .i64 k.state, .int .i64 k.came, .int .i64 k.frm, .int .i64 k.to] 26)), p.now.cell? ⟨w3.heap.size, 4, none⟩ = some (.string k.spec.tag) := fun _ => Later.cell B2.out.lt B2.out.c4
  have zc31 : ∀ p : Later (w3.alloc (.cells #[.int .i64 k.id, .int .i64 k.spec.nodes, .int .i64 k.spec.cores, .int .i64 k.spec.gpus, .string k.spec.tag, .bool k.spec.whole, .int .i64 k.spec.long, .int .i64 k.spec.prio, .slice A2 m2 c2, .int .i64 k.state, .int .i64 k.came, .int .i64 k.frm, .int .i64 k.to] 26)), p.now.cell? ⟨w3.heap.size, 5, none⟩ = some (.bool k.spec.whole) := fun _ => Later.cell B2.out.lt B2.out.c5
  have zc32 : ∀ p : Later (w3.alloc (.cells #[.int .i64 k.id, .int .i64 k.spec.nodes, .int .i64 k.spec.cores, .int .i64 k.spec.gpus, .string k.spec.tag, .bool k.spec.whole, .int .i64 k.spec.long, .int .i64 k.spec.prio, .slice A2 m2 c2, .int .i64 k.state, .int .i64 k.came, .int .i64 k.frm, .int .i64 k.to] 26)), p.now.cell? ⟨w3.heap.size, 6, none⟩ = some (.int .i64 k.spec.long) := fun _ => Later.cell B2.out.lt B2.out.c6
  have zc33 : ∀ p : Later (w3.alloc (.cells #[.int .i64 k.id, .int .i64 k.spec.nodes, .int .i64 k.spec.cores, .int .i64 k.spec.gpus, .string k.spec.tag, .bool k.spec.whole, .int .i64 k.spec.long, .int .i64 k.spec.prio, .slice A2 m2 c2, .int .i64 k.state, .int .i64 k.came, .int .i64 k.frm, .int .i64 k.to] 26)), p.now.cell? ⟨w3.heap.size, 7, none⟩ = some (.int .i64 k.spec.prio) := fun _ => Later.cell B2.out.lt B2.out.c7
  have zc34 : ∀ p : Later (w3.alloc (.cells #[.int .i64 k.id, .int .i64 k.spec.nodes, .int .i64 k.spec.cores, .int .i64 k.spec.gpus, .string k.spec.tag, .bool k.spec.whole, .int .i64 k.spec.long, .int .i64 k.spec.prio, .slice A2 m2 c2, .int .i64 k.state, .int .i64 k.came, .int .i64 k.frm, .int .i64 k.to] 26)), p.now.cell? ⟨w3.heap.size, 8, none⟩ = some (.slice A2 m2 c2) := fun _ => Later.cell B2.out.lt B2.out.c8
  have zc35 : ∀ p : Later (w3.alloc (.cells #[.int .i64 k.id, .int .i64 k.spec.nodes, .int .i64 k.spec.cores, .int .i64 k.spec.gpus, .string k.spec.tag, .bool k.spec.whole, .int .i64 k.spec.long, .int .i64 k.spec.prio, .slice A2 m2 c2, .int .i64 k.state, .int .i64 k.came, .int .i64 k.frm, .int .i64 k.to] 26)), p.now.cell? ⟨w3.heap.size, 9, none⟩ = some (.int .i64 k.state) := fun _ => Later.cell B2.out.lt B2.out.c9
  have zc36 : ∀ p : Later (w3.alloc (.cells #[.int .i64 k.id, .int .i64 k.spec.nodes, .int .i64 k.spec.cores, .int .i64 k.spec.gpus, .string k.spec.tag, .bool k.spec.whole, .int .i64 k.spec.long, .int .i64 k.spec.prio, .slice A2 m2 c2, .int .i64 k.state, .int .i64 k.came, .int .i64 k.frm, .int .i64 k.to] 26)), p.now.cell? ⟨w3.heap.size, 10, none⟩ = some (.int .i64 k.came) := fun _ => Later.cell B2.out.lt B2.out.c10
  have zc37 : ∀ p : Later (w3.alloc (.cells #[.int .i64 k.id, .int .i64 k.spec.nodes, .int .i64 k.spec.cores, .int .i64 k.spec.gpus, .string k.spec.tag, .bool k.spec.whole, .int .i64 k.spec.long, .int .i64 k.spec.prio, .slice A2 m2 c2, .int .i64 k.state, .int .i64 k.came, .int .i64 k.frm, .int .i64 k.to] 26)), p.now.cell? ⟨w3.heap.size, 11, none⟩ = some (.int .i64 k.frm) := fun _ => Later.cell B2.out.lt B2.out.c11
  have zc38 : ∀ p : Later (w3.alloc (.cells #[.int .i64 k.id, .int .i64 k.spec.nodes, .int .i64 k.spec.cores, .int .i64 k.spec.gpus, .string k.spec.tag, .bool k.spec.whole, .int .i64 k.spec.long, .int .i64 k.spec.prio, .slice A2 m2 c2, .int .i64 k.state, .int .i64 k.came, .int .i64 k.frm, .int .i64 k.to] 26)), p.now.cell? ⟨w3.heap.size, 12, none⟩ = some (.int .i64 k.to) := fun _ => Later.cell B2.out.lt B2.out.c12
  refine wp_region_later (by kernel_rfl) (by kernel_rfl) ?_
  repeat (first | go_big_quiet_skip | (go_big_quiet_want; go_big_quiet_op; first | go_big_quiet_on | (apply Exists.intro; refine ⟨fun pz => ?_, ?_⟩; (first | (go_at_call 9; exact Calls.later_of (h11_right H (JA.out.next pz.bel) hmm RV.out)) | (go_at_call 10; exact Calls.later_of (refRightJ_b (JA.out.next pz.bel) RV.out)) | (go_at_call 11; exact Calls.later_of (refSameJ_b (J1.out.next pz.bel) (J2.out.next pz.bel) (sameJ_iff.2 rfl))) | (go_at_call 12; exact Calls.later_of (h11_over H IS.out OV.out)) | (go_at_call 13; exact Calls.later_of (h11_name H IS.out NM.out)) | fail); go_big_quiet_on)))
  refine wpQuiet_nil ?_
  intro _ hw'
  obtain ⟨pz, rfl⟩ := hw'
  obtain ⟨w4, hb⟩ := pz
  try dsimp only
  clear zc0 zc1 zc2 zc3 zc4 zc5 zc6 zc7 zc8 zc9 zc10 zc11 zc12 zc13 zc14 zc15 zc16 zc17 zc18 zc19 zc20 zc21 zc22 zc23 zc24 zc25 zc26 zc27 zc28 zc29 zc30 zc31 zc32 zc33 zc34 zc35 zc36 zc37 zc38
  have HBq := Lib.hid (HB.out.trans (hb.mono HB.out.size))
  clear HB
  have HB := HBq
  clear HBq
  have BXq := Lib.hid (BX.out.next hb)
  clear BX
  have BX := BXq
  clear BXq
  have JAq := Lib.hid (JA.out.next hb)
  clear JA
  have JA := JAq
  clear JAq
  have J1q := Lib.hid (J1.out.next hb)
  clear J1
  have J1 := J1q
  clear J1q
  have B1q := Lib.hid (B1.out.next hb)
  clear B1
  have B1 := B1q
  clear B1q
  have J2q := Lib.hid (J2.out.next hb)
  clear J2
  have J2 := J2q
  clear J2q
  have B2q := Lib.hid (B2.out.next hb)
  clear B2
  have B2 := B2q
  clear B2q
  clear hb
  clear q0 q1 q2 q3 q4 q5 q6 q7 q8 q9 q10 q11 q12 r0 r1 r2 r3 r4 r5 r6 r7 r8 r9 r10 r11 r12 s0 s1 s2 s3 s4 s5 s6 s7 s8 s9 s10 s11 s12
  go_wp2
  go_ret
  exact ⟨rfl, HB.out⟩

set_option maxRecDepth 100000 in
set_option maxHeartbeats 8000000 in
theorem jobRight_2 (H : JobOk) (A : Option Addr) (m c : Nat) (j : Jb) (what now st : Int) (w : World) (hj : JAsk w A m c j) (hw : I64 what) (hn : I64 now) (hs : I64 st) (h40 : ¬ 40 < m) (h1 : 3 ≤ st) (h2 : st ≤ 6) :
    Calls Try.prog 3 #[.agg #[.int .i64 j.id, .int .i64 j.spec.nodes, .int .i64 j.spec.cores, .int .i64 j.spec.gpus, .string j.spec.tag, .bool j.spec.whole, .int .i64 j.spec.long, .int .i64 j.spec.prio, .slice A m c, .int .i64 j.state, .int .i64 j.came, .int .i64 j.frm, .int .i64 j.to], .int .i64 what, .int .i64 now, .int .i64 st] w fun e w' => e = .returned (.bool true) ∧ Below w.heap.size w w' := by
  obtain ⟨W, hW⟩ : ∃ W, W = w.alloc (jO j A m c) := ⟨_, rfl⟩
  have BX : Hid (BoxJ W w.heap.size j A m c) := Lib.hid (by rw [hW]; exact boxJ_new w j A m c)
  have hb0 : Below w.heap.size w W := by rw [hW]; exact (Below.refl _ _).alloc (Nat.le_refl _) _
  have HB := Lib.hid hb0
  have JA := Lib.hid (hj.next hb0)
  unfold jO at hW
  have d1 : decide (0 ≤ st) = true := decide_eq_true (by omega)
  have d2 : decide (st ≤ 6) = true := decide_eq_true h2
  have d3 : decide (3 ≤ st) = true := decide_eq_true h1
  have hov : overJ st = true := decide_eq_true ⟨h1, h2⟩
  have hix := name_place (show 0 ≤ st by omega) h2
  obtain ⟨nm, hnm⟩ : ∃ v, nameJ st = v := ⟨_, rfl⟩
  rw [hnm] at hix
  clear h1 h2
  have h40d : decide ((40 : Int) < (m : Int)) = false := by simp; omega
  have hmm : m ≤ 100 := by omega
  have IW := Lib.hid hw
  have IN := Lib.hid hn
  have IS := Lib.hid hs
  have OV := Lib.hid hov
  have NM := Lib.hid hnm
  obtain ⟨v, hv⟩ : ∃ v, rightJ j = v := ⟨_, rfl⟩
  obtain ⟨k, hk⟩ : ∃ k, doJ j what now = k := ⟨_, rfl⟩
  obtain ⟨er, he⟩ : ∃ e, doE j what now = e := ⟨_, rfl⟩
  have RV := Lib.hid hv
  have EK := Lib.hid hk
  have EE := Lib.hid he
  clear hb0 hj hw hn hs h40 hov hnm hv hk he
  go_enter Try.func3, Try.ntmps3
  go_wp2_with fail
  rw [← hW]
  refine (awake11_any H _).mono ?_
  rintro e w1 ⟨rfl, hb⟩
  have HBq := Lib.hid (HB.out.trans (hb.mono HB.out.size))
  clear HB
  have HB := HBq
  clear HBq
  have BXq := Lib.hid (BX.out.next hb)
  clear BX
  have BX := BXq
  clear BXq
  have JAq := Lib.hid (JA.out.next hb)
  clear JA
  have JA := JAq
  clear JAq
  clear hb
  clear hW
  have q0 := BX.out.c0
  have q1 := BX.out.c1
  have q2 := BX.out.c2
  have q3 := BX.out.c3
  have q4 := BX.out.c4
  have q5 := BX.out.c5
  have q6 := BX.out.c6
  have q7 := BX.out.c7
  have q8 := BX.out.c8
  have q9 := BX.out.c9
  have q10 := BX.out.c10
  have q11 := BX.out.c11
  have q12 := BX.out.c12
  go_wp2_with fail
  refine (h11_do H JA.out hmm IW.out IN.out EK.out EE.out).mono ?_
  rintro e w2 ⟨⟨A1, m1, c1, rfl, hj1⟩, hb⟩
  have HBq := Lib.hid (HB.out.trans (hb.mono HB.out.size))
  clear HB
  have HB := HBq
  clear HBq
  have BXq := Lib.hid (BX.out.next hb)
  clear BX
  have BX := BXq
  clear BXq
  have JAq := Lib.hid (JA.out.next hb)
  clear JA
  have JA := JAq
  clear JAq
  clear hb
  have J1 := Lib.hid hj1
  clear hj1
  clear q0 q1 q2 q3 q4 q5 q6 q7 q8 q9 q10 q11 q12
  have hb := Below.alloc (Below.refl w2.heap.size w2) (Nat.le_refl _) (.cells #[.int .i64 k.id, .int .i64 k.spec.nodes, .int .i64 k.spec.cores, .int .i64 k.spec.gpus, .string k.spec.tag, .bool k.spec.whole, .int .i64 k.spec.long, .int .i64 k.spec.prio, .slice A1 m1 c1, .int .i64 k.state, .int .i64 k.came, .int .i64 k.frm, .int .i64 k.to] 26)
  have B1q := Lib.hid (boxJ_new w2 k A1 m1 c1)
  have HBq := Lib.hid (HB.out.trans (hb.mono HB.out.size))
  clear HB
  have HB := HBq
  clear HBq
  have BXq := Lib.hid (BX.out.next hb)
  clear BX
  have BX := BXq
  clear BXq
  have JAq := Lib.hid (JA.out.next hb)
  clear JA
  have JA := JAq
  clear JAq
  have J1q := Lib.hid (J1.out.next hb)
  clear J1
  have J1 := J1q
  clear J1q
  clear hb
  have B1 := B1q
  clear B1q
  have q0 := BX.out.c0
  have q1 := BX.out.c1
  have q2 := BX.out.c2
  have q3 := BX.out.c3
  have q4 := BX.out.c4
  have q5 := BX.out.c5
  have q6 := BX.out.c6
  have q7 := BX.out.c7
  have q8 := BX.out.c8
  have q9 := BX.out.c9
  have q10 := BX.out.c10
  have q11 := BX.out.c11
  have q12 := BX.out.c12
  go_wp2_with fail
  refine (refDoJ_b JA.out IN.out EK.out EE.out).mono ?_
  rintro e w3 ⟨⟨A2, m2, c2, rfl, hj2⟩, hb⟩
  have HBq := Lib.hid (HB.out.trans (hb.mono HB.out.size))
  clear HB
  have HB := HBq
  clear HBq
  have BXq := Lib.hid (BX.out.next hb)
  clear BX
  have BX := BXq
  clear BXq
  have JAq := Lib.hid (JA.out.next hb)
  clear JA
  have JA := JAq
  clear JAq
  have J1q := Lib.hid (J1.out.next hb)
  clear J1
  have J1 := J1q
  clear J1q
  have B1q := Lib.hid (B1.out.next hb)
  clear B1
  have B1 := B1q
  clear B1q
  clear hb
  have J2 := Lib.hid hj2
  clear hj2
  clear q0 q1 q2 q3 q4 q5 q6 q7 q8 q9 q10 q11 q12
  have hb := Below.alloc (Below.refl w3.heap.size w3) (Nat.le_refl _) (.cells #[.int .i64 k.id, .int .i64 k.spec.nodes, .int .i64 k.spec.cores, .int .i64 k.spec.gpus, .string k.spec.tag, .bool k.spec.whole, .int .i64 k.spec.long, .int .i64 k.spec.prio, .slice A2 m2 c2, .int .i64 k.state, .int .i64 k.came, .int .i64 k.frm, .int .i64 k.to] 26)
  have B2q := Lib.hid (boxJ_new w3 k A2 m2 c2)
  have HBq := Lib.hid (HB.out.trans (hb.mono HB.out.size))
  clear HB
  have HB := HBq
  clear HBq
  have BXq := Lib.hid (BX.out.next hb)
  clear BX
  have BX := BXq
  clear BXq
  have JAq := Lib.hid (JA.out.next hb)
  clear JA
  have JA := JAq
  clear JAq
  have J1q := Lib.hid (J1.out.next hb)
  clear J1
  have J1 := J1q
  clear J1q
  have B1q := Lib.hid (B1.out.next hb)
  clear B1
  have B1 := B1q
  clear B1q
  have J2q := Lib.hid (J2.out.next hb)
  clear J2
  have J2 := J2q
  clear J2q
  clear hb
  have B2 := B2q
  clear B2q
  have q0 := BX.out.c0
  have q1 := BX.out.c1
  have q2 := BX.out.c2
  have q3 := BX.out.c3
  have q4 := BX.out.c4
  have q5 := BX.out.c5
  have q6 := BX.out.c6
  have q7 := BX.out.c7
  have q8 := BX.out.c8
  have q9 := BX.out.c9
  have q10 := BX.out.c10
  have q11 := BX.out.c11
  have q12 := BX.out.c12
  have r0 := B1.out.c0
  have r1 := B1.out.c1
  have r2 := B1.out.c2
  have r3 := B1.out.c3
  have r4 := B1.out.c4
  have r5 := B1.out.c5
  have r6 := B1.out.c6
  have r7 := B1.out.c7
  have r8 := B1.out.c8
  have r9 := B1.out.c9
  have r10 := B1.out.c10
  have r11 := B1.out.c11
  have r12 := B1.out.c12
  have s0 := B2.out.c0
  have s1 := B2.out.c1
  have s2 := B2.out.c2
  have s3 := B2.out.c3
  have s4 := B2.out.c4
  have s5 := B2.out.c5
  have s6 := B2.out.c6
  have s7 := B2.out.c7
  have s8 := B2.out.c8
  have s9 := B2.out.c9
  have s10 := B2.out.c10
  have s11 := B2.out.c11
  have s12 := B2.out.c12
  go_wp2
  have zc0 : ∀ p : Later (w3.alloc (.cells #[.int .i64 k.id, .int .i64 k.spec.nodes, .int .i64 k.spec.cores, .int .i64 k.spec.gpus, .string k.spec.tag, .bool k.spec.whole, .int .i64 k.spec.long, .int .i64 k.spec.prio, .slice A2 m2 c2, .int .i64 k.state, .int .i64 k.came, .int .i64 k.frm, .int .i64 k.to] 26)), p.now.cell? ⟨w.heap.size, 0, none⟩ = some (.int .i64 j.id) := fun _ => Later.cell BX.out.lt BX.out.c0
  have zc1 : ∀ p : Later (w3.alloc (.cells #[.int .i64 k.id, .int .i64 k.spec.nodes, .int .i64 k.spec.cores, .int .i64 k.spec.gpus, .string k.spec.tag, .bool k.spec.whole, .int .i64 k.spec.long, .int .i64 k.spec.prio, .slice A2 m2 c2, .int .i64 k.state, .int .i64 k.came, .int .i64 k.frm, .int .i64 k.to] 26)), p.now.cell? ⟨w.heap.size, 1, none⟩ = some (.int .i64 j.spec.nodes) := fun _ => Later.cell BX.out.lt BX.out.c1
  have zc2 : ∀ p : Later (w3.alloc (.cells #[.int .i64 k.id, .int .i64 k.spec.nodes, .int .i64 k.spec.cores, .int .i64 k.spec.gpus, .string k.spec.tag, .bool k.spec.whole, .int .i64 k.spec.long, .int .i64 k.spec.prio, .slice A2 m2 c2, .int .i64 k.state, .int .i64 k.came, .int .i64 k.frm, .int .i64 k.to] 26)), p.now.cell? ⟨w.heap.size, 2, none⟩ = some (.int .i64 j.spec.cores) := fun _ => Later.cell BX.out.lt BX.out.c2
  have zc3 : ∀ p : Later (w3.alloc (.cells #[.int .i64 k.id, .int .i64 k.spec.nodes, .int .i64 k.spec.cores, .int .i64 k.spec.gpus, .string k.spec.tag, .bool k.spec.whole, .int .i64 k.spec.long, .int .i64 k.spec.prio, .slice A2 m2 c2, .int .i64 k.state, .int .i64 k.came, .int .i64 k.frm, .int .i64 k.to] 26)), p.now.cell? ⟨w.heap.size, 3, none⟩ = some (.int .i64 j.spec.gpus) := fun _ => Later.cell BX.out.lt BX.out.c3
  have zc4 : ∀ p : Later (w3.alloc (.cells #[.int .i64 k.id, .int .i64 k.spec.nodes, .int .i64 k.spec.cores, .int .i64 k.spec.gpus, .string k.spec.tag, .bool k.spec.whole, .int .i64 k.spec.long, .int .i64 k.spec.prio, .slice A2 m2 c2, .int .i64 k.state, .int .i64 k.came, .int .i64 k.frm, .int .i64 k.to] 26)), p.now.cell? ⟨w.heap.size, 4, none⟩ = some (.string j.spec.tag) := fun _ => Later.cell BX.out.lt BX.out.c4
  have zc5 : ∀ p : Later (w3.alloc (.cells #[.int .i64 k.id, .int .i64 k.spec.nodes, .int .i64 k.spec.cores, .int .i64 k.spec.gpus, .string k.spec.tag, .bool k.spec.whole, .int .i64 k.spec.long, .int .i64 k.spec.prio, .slice A2 m2 c2, .int .i64 k.state, .int .i64 k.came, .int .i64 k.frm, .int .i64 k.to] 26)), p.now.cell? ⟨w.heap.size, 5, none⟩ = some (.bool j.spec.whole) := fun _ => Later.cell BX.out.lt BX.out.c5
  have zc6 : ∀ p : Later (w3.alloc (.cells #[.int .i64 k.id, .int .i64 k.spec.nodes, .int .i64 k.spec.cores, .int .i64 k.spec.gpus, .string k.spec.tag, .bool k.spec.whole, .int .i64 k.spec.long, .int .i64 k.spec.prio, .slice A2 m2 c2, .int .i64 k.state, .int .i64 k.came, .int .i64 k.frm, .int .i64 k.to] 26)), p.now.cell? ⟨w.heap.size, 6, none⟩ = some (.int .i64 j.spec.long) := fun _ => Later.cell BX.out.lt BX.out.c6
  have zc7 : ∀ p : Later (w3.alloc (.cells #[.int .i64 k.id, .int .i64 k.spec.nodes, .int .i64 k.spec.cores, .int .i64 k.spec.gpus, .string k.spec.tag, .bool k.spec.whole, .int .i64 k.spec.long, .int .i64 k.spec.prio, .slice A2 m2 c2, .int .i64 k.state, .int .i64 k.came, .int .i64 k.frm, .int .i64 k.to] 26)), p.now.cell? ⟨w.heap.size, 7, none⟩ = some (.int .i64 j.spec.prio) := fun _ => Later.cell BX.out.lt BX.out.c7
  have zc8 : ∀ p : Later (w3.alloc (.cells #[.int .i64 k.id, .int .i64 k.spec.nodes, .int .i64 k.spec.cores, .int .i64 k.spec.gpus, .string k.spec.tag, .bool k.spec.whole, .int .i64 k.spec.long, .int .i64 k.spec.prio, .slice A2 m2 c2, .int .i64 k.state, .int .i64 k.came, .int .i64 k.frm, .int .i64 k.to] 26)), p.now.cell? ⟨w.heap.size, 8, none⟩ = some (.slice A m c) := fun _ => Later.cell BX.out.lt BX.out.c8
  have zc9 : ∀ p : Later (w3.alloc (.cells #[.int .i64 k.id, .int .i64 k.spec.nodes, .int .i64 k.spec.cores, .int .i64 k.spec.gpus, .string k.spec.tag, .bool k.spec.whole, .int .i64 k.spec.long, .int .i64 k.spec.prio, .slice A2 m2 c2, .int .i64 k.state, .int .i64 k.came, .int .i64 k.frm, .int .i64 k.to] 26)), p.now.cell? ⟨w.heap.size, 9, none⟩ = some (.int .i64 j.state) := fun _ => Later.cell BX.out.lt BX.out.c9
  have zc10 : ∀ p : Later (w3.alloc (.cells #[.int .i64 k.id, .int .i64 k.spec.nodes, .int .i64 k.spec.cores, .int .i64 k.spec.gpus, .string k.spec.tag, .bool k.spec.whole, .int .i64 k.spec.long, .int .i64 k.spec.prio, .slice A2 m2 c2, .int .i64 k.state, .int .i64 k.came, .int .i64 k.frm, .int .i64 k.to] 26)), p.now.cell? ⟨w.heap.size, 10, none⟩ = some (.int .i64 j.came) := fun _ => Later.cell BX.out.lt BX.out.c10
  have zc11 : ∀ p : Later (w3.alloc (.cells #[.int .i64 k.id, .int .i64 k.spec.nodes, .int .i64 k.spec.cores, .int .i64 k.spec.gpus, .string k.spec.tag, .bool k.spec.whole, .int .i64 k.spec.long, .int .i64 k.spec.prio, .slice A2 m2 c2, .int .i64 k.state, .int .i64 k.came, .int .i64 k.frm, .int .i64 k.to] 26)), p.now.cell? ⟨w.heap.size, 11, none⟩ = some (.int .i64 j.frm) := fun _ => Later.cell BX.out.lt BX.out.c11
  have zc12 : ∀ p : Later (w3.alloc (.cells #[.int .i64 k.id, .int .i64 k.spec.nodes, .int .i64 k.spec.cores, .int .i64 k.spec.gpus, .string k.spec.tag, .bool k.spec.whole, .int .i64 k.spec.long, .int .i64 k.spec.prio, .slice A2 m2 c2, .int .i64 k.state, .int .i64 k.came, .int .i64 k.frm, .int .i64 k.to] 26)), p.now.cell? ⟨w.heap.size, 12, none⟩ = some (.int .i64 j.to) := fun _ => Later.cell BX.out.lt BX.out.c12
  have zc13 : ∀ p : Later (w3.alloc (.cells #[.int .i64 k.id, .int .i64 k.spec.nodes, .int .i64 k.spec.cores, .int .i64 k.spec.gpus, .string k.spec.tag, .bool k.spec.whole, .int .i64 k.spec.long, .int .i64 k.spec.prio, .slice A2 m2 c2, .int .i64 k.state, .int .i64 k.came, .int .i64 k.frm, .int .i64 k.to] 26)), p.now.cell? ⟨w2.heap.size, 0, none⟩ = some (.int .i64 k.id) := fun _ => Later.cell B1.out.lt B1.out.c0
  have zc14 : ∀ p : Later (w3.alloc (.cells #[.int .i64 k.id, .int .i64 k.spec.nodes, .int .i64 k.spec.cores, .int .i64 k.spec.gpus, .string k.spec.tag, .bool k.spec.whole, .int .i64 k.spec.long, .int .i64 k.spec.prio, .slice A2 m2 c2, .int .i64 k.state, .int .i64 k.came, .int .i64 k.frm, .int .i64 k.to] 26)), p.now.cell? ⟨w2.heap.size, 1, none⟩ = some (.int .i64 k.spec.nodes) := fun _ => Later.cell B1.out.lt B1.out.c1
  have zc15 : ∀ p : Later (w3.alloc (.cells #[.int .i64 k.id, .int .i64 k.spec.nodes, .int .i64 k.spec.cores, .int .i64 k.spec.gpus, .string k.spec.tag, .bool k.spec.whole, .int .i64 k.spec.long, .int .i64 k.spec.prio, .slice A2 m2 c2, .int .i64 k.state, .int .i64 k.came, .int .i64 k.frm, .int .i64 k.to] 26)), p.now.cell? ⟨w2.heap.size, 2, none⟩ = some (.int .i64 k.spec.cores) := fun _ => Later.cell B1.out.lt B1.out.c2
  have zc16 : ∀ p : Later (w3.alloc (.cells #[.int .i64 k.id, .int .i64 k.spec.nodes, .int .i64 k.spec.cores, .int .i64 k.spec.gpus, .string k.spec.tag, .bool k.spec.whole, .int .i64 k.spec.long, .int .i64 k.spec.prio, .slice A2 m2 c2, .int .i64 k.state, .int .i64 k.came, .int .i64 k.frm, .int .i64 k.to] 26)), p.now.cell? ⟨w2.heap.size, 3, none⟩ = some (.int .i64 k.spec.gpus) := fun _ => Later.cell B1.out.lt B1.out.c3
  have zc17 : ∀ p : Later (w3.alloc (.cells #[.int .i64 k.id, .int .i64 k.spec.nodes, .int .i64 k.spec.cores, .int .i64 k.spec.gpus, .string k.spec.tag, .bool k.spec.whole, .int .i64 k.spec.long, .int .i64 k.spec.prio, .slice A2 m2 c2, .int .i64 k.state, .int .i64 k.came, .int .i64 k.frm, .int .i64 k.to] 26)), p.now.cell? ⟨w2.heap.size, 4, none⟩ = some (.string k.spec.tag) := fun _ => Later.cell B1.out.lt B1.out.c4
  have zc18 : ∀ p : Later (w3.alloc (.cells #[.int .i64 k.id, .int .i64 k.spec.nodes, .int .i64 k.spec.cores, .int .i64 k.spec.gpus, .string k.spec.tag, .bool k.spec.whole, .int .i64 k.spec.long, .int .i64 k.spec.prio, .slice A2 m2 c2, .int .i64 k.state, .int .i64 k.came, .int .i64 k.frm, .int .i64 k.to] 26)), p.now.cell? ⟨w2.heap.size, 5, none⟩ = some (.bool k.spec.whole) := fun _ => Later.cell B1.out.lt B1.out.c5
  have zc19 : ∀ p : Later (w3.alloc (.cells #[.int .i64 k.id, .int .i64 k.spec.nodes, .int .i64 k.spec.cores, .int .i64 k.spec.gpus, .string k.spec.tag, .bool k.spec.whole, .int .i64 k.spec.long, .int .i64 k.spec.prio, .slice A2 m2 c2, .int .i64 k.state, .int .i64 k.came, .int .i64 k.frm, .int .i64 k.to] 26)), p.now.cell? ⟨w2.heap.size, 6, none⟩ = some (.int .i64 k.spec.long) := fun _ => Later.cell B1.out.lt B1.out.c6
  have zc20 : ∀ p : Later (w3.alloc (.cells #[.int .i64 k.id, .int .i64 k.spec.nodes, .int .i64 k.spec.cores, .int .i64 k.spec.gpus, .string k.spec.tag, .bool k.spec.whole, .int .i64 k.spec.long, .int .i64 k.spec.prio, .slice A2 m2 c2, .int .i64 k.state, .int .i64 k.came, .int .i64 k.frm, .int .i64 k.to] 26)), p.now.cell? ⟨w2.heap.size, 7, none⟩ = some (.int .i64 k.spec.prio) := fun _ => Later.cell B1.out.lt B1.out.c7
  have zc21 : ∀ p : Later (w3.alloc (.cells #[.int .i64 k.id, .int .i64 k.spec.nodes, .int .i64 k.spec.cores, .int .i64 k.spec.gpus, .string k.spec.tag, .bool k.spec.whole, .int .i64 k.spec.long, .int .i64 k.spec.prio, .slice A2 m2 c2, .int .i64 k.state, .int .i64 k.came, .int .i64 k.frm, .int .i64 k.to] 26)), p.now.cell? ⟨w2.heap.size, 8, none⟩ = some (.slice A1 m1 c1) := fun _ => Later.cell B1.out.lt B1.out.c8
  have zc22 : ∀ p : Later (w3.alloc (.cells #[.int .i64 k.id, .int .i64 k.spec.nodes, .int .i64 k.spec.cores, .int .i64 k.spec.gpus, .string k.spec.tag, .bool k.spec.whole, .int .i64 k.spec.long, .int .i64 k.spec.prio, .slice A2 m2 c2, .int .i64 k.state, .int .i64 k.came, .int .i64 k.frm, .int .i64 k.to] 26)), p.now.cell? ⟨w2.heap.size, 9, none⟩ = some (.int .i64 k.state) := fun _ => Later.cell B1.out.lt B1.out.c9
  have zc23 : ∀ p : Later (w3.alloc (.cells #[.int .i64 k.id, .int .i64 k.spec.nodes, .int .i64 k.spec.cores, .int .i64 k.spec.gpus, .string k.spec.tag, .bool k.spec.whole, .int .i64 k.spec.long, .int .i64 k.spec.prio, .slice A2 m2 c2, .int .i64 k.state, .int .i64 k.came, .int .i64 k.frm, .int .i64 k.to] 26)), p.now.cell? ⟨w2.heap.size, 10, none⟩ = some (.int .i64 k.came) := fun _ => Later.cell B1.out.lt B1.out.c10
  have zc24 : ∀ p : Later (w3.alloc (.cells #[.int .i64 k.id, .int .i64 k.spec.nodes, .int .i64 k.spec.cores, .int .i64 k.spec.gpus, .string k.spec.tag, .bool k.spec.whole, .int .i64 k.spec.long, .int .i64 k.spec.prio, .slice A2 m2 c2, .int .i64 k.state, .int .i64 k.came, .int .i64 k.frm, .int .i64 k.to] 26)), p.now.cell? ⟨w2.heap.size, 11, none⟩ = some (.int .i64 k.frm) := fun _ => Later.cell B1.out.lt B1.out.c11
  have zc25 : ∀ p : Later (w3.alloc (.cells #[.int .i64 k.id, .int .i64 k.spec.nodes, .int .i64 k.spec.cores, .int .i64 k.spec.gpus, .string k.spec.tag, .bool k.spec.whole, .int .i64 k.spec.long, .int .i64 k.spec.prio, .slice A2 m2 c2, .int .i64 k.state, .int .i64 k.came, .int .i64 k.frm, .int .i64 k.to] 26)), p.now.cell? ⟨w2.heap.size, 12, none⟩ = some (.int .i64 k.to) := fun _ => Later.cell B1.out.lt B1.out.c12
  have zc26 : ∀ p : Later (w3.alloc (.cells #[.int .i64 k.id, .int .i64 k.spec.nodes, .int .i64 k.spec.cores, .int .i64 k.spec.gpus, .string k.spec.tag, .bool k.spec.whole, .int .i64 k.spec.long, .int .i64 k.spec.prio, .slice A2 m2 c2, .int .i64 k.state, .int .i64 k.came, .int .i64 k.frm, .int .i64 k.to] 26)), p.now.cell? ⟨w3.heap.size, 0, none⟩ = some (.int .i64 k.id) := fun _ => Later.cell B2.out.lt B2.out.c0
  have zc27 : ∀ p : Later (w3.alloc (.cells #[.int .i64 k.id, .int .i64 k.spec.nodes, .int .i64 k.spec.cores, .int .i64 k.spec.gpus, .string k.spec.tag, .bool k.spec.whole, .int .i64 k.spec.long, .int .i64 k.spec.prio, .slice A2 m2 c2, .int .i64 k.state, .int .i64 k.came, .int .i64 k.frm, .int .i64 k.to] 26)), p.now.cell? ⟨w3.heap.size, 1, none⟩ = some (.int .i64 k.spec.nodes) := fun _ => Later.cell B2.out.lt B2.out.c1
  have zc28 : ∀ p : Later (w3.alloc (.cells #[.int .i64 k.id, .int .i64 k.spec.nodes, .int .i64 k.spec.cores, .int .i64 k.spec.gpus, .string k.spec.tag, .bool k.spec.whole, .int .i64 k.spec.long, .int .i64 k.spec.prio, .slice A2 m2 c2, .int .i64 k.state, .int .i64 k.came, .int .i64 k.frm, .int .i64 k.to] 26)), p.now.cell? ⟨w3.heap.size, 2, none⟩ = some (.int .i64 k.spec.cores) := fun _ => Later.cell B2.out.lt B2.out.c2
  have zc29 : ∀ p : Later (w3.alloc (.cells #[.int .i64 k.id, .int .i64 k.spec.nodes, .int .i64 k.spec.cores, .int .i64 k.spec.gpus, .string k.spec.tag, .bool k.spec.whole, .int .i64 k.spec.long, .int .i64 k.spec.prio, .slice A2 m2 c2, .int .i64 k.state, .int .i64 k.came, .int .i64 k.frm, .int .i64 k.to] 26)), p.now.cell? ⟨w3.heap.size, 3, none⟩ = some (.int .i64 k.spec.gpus) := fun _ => Later.cell B2.out.lt B2.out.c3
  have zc30 : ∀ p : Later (w3.alloc (.cells #[.int .i64 k.id, .int .i64 k.spec.nodes, .int .i64 k.spec.cores, .int .i64 k.spec.gpus, .string k.spec.tag, .bool k.spec.whole, .int .i64 k.spec.long, .int .i64 k.spec.prio, .slice A2 m2 c2, .int .i64 k.state, .int .i64 k.came, .int .i64 k.frm, .int .i64 k.to] 26)), p.now.cell? ⟨w3.heap.size, 4, none⟩ = some (.string k.spec.tag) := fun _ => Later.cell B2.out.lt B2.out.c4
  have zc31 : ∀ p : Later (w3.alloc (.cells #[.int .i64 k.id, .int .i64 k.spec.nodes, .int .i64 k.spec.cores, .int .i64 k.spec.gpus, .string k.spec.tag, .bool k.spec.whole, .int .i64 k.spec.long, .int .i64 k.spec.prio, .slice A2 m2 c2, .int .i64 k.state, .int .i64 k.came, .int .i64 k.frm, .int .i64 k.to] 26)), p.now.cell? ⟨w3.heap.size, 5, none⟩ = some (.bool k.spec.whole) := fun _ => Later.cell B2.out.lt B2.out.c5
  have zc32 : ∀ p : Later (w3.alloc (.cells #[.int .i64 k.id, .int .i64 k.spec.nodes, .int .i64 k.spec.cores, .int .i64 k.spec.gpus, .string k.spec.tag, .bool k.spec.whole, .int .i64 k.spec.long, .int .i64 k.spec.prio, .slice A2 m2 c2, .int .i64 k.state, .int .i64 k.came, .int .i64 k.frm, .int .i64 k.to] 26)), p.now.cell? ⟨w3.heap.size, 6, none⟩ = some (.int .i64 k.spec.long) := fun _ => Later.cell B2.out.lt B2.out.c6
  have zc33 : ∀ p : Later (w3.alloc (.cells #[.int .i64 k.id, .int .i64 k.spec.nodes, .int .i64 k.spec.cores, .int .i64 k.spec.gpus, .string k.spec.tag, .bool k.spec.whole, .int .i64 k.spec.long, .int .i64 k.spec.prio, .slice A2 m2 c2, .int .i64 k.state, .int .i64 k.came, .int .i64 k.frm, .int .i64 k.to] 26)), p.now.cell? ⟨w3.heap.size, 7, none⟩ = some (.int .i64 k.spec.prio) := fun _ => Later.cell B2.out.lt B2.out.c7
  have zc34 : ∀ p : Later (w3.alloc (.cells #[.int .i64 k.id, .int .i64 k.spec.nodes, .int .i64 k.spec.cores, .int .i64 k.spec.gpus, .string k.spec.tag, .bool k.spec.whole, .int .i64 k.spec.long, .int .i64 k.spec.prio, .slice A2 m2 c2, .int .i64 k.state, .int .i64 k.came, .int .i64 k.frm, .int .i64 k.to] 26)), p.now.cell? ⟨w3.heap.size, 8, none⟩ = some (.slice A2 m2 c2) := fun _ => Later.cell B2.out.lt B2.out.c8
  have zc35 : ∀ p : Later (w3.alloc (.cells #[.int .i64 k.id, .int .i64 k.spec.nodes, .int .i64 k.spec.cores, .int .i64 k.spec.gpus, .string k.spec.tag, .bool k.spec.whole, .int .i64 k.spec.long, .int .i64 k.spec.prio, .slice A2 m2 c2, .int .i64 k.state, .int .i64 k.came, .int .i64 k.frm, .int .i64 k.to] 26)), p.now.cell? ⟨w3.heap.size, 9, none⟩ = some (.int .i64 k.state) := fun _ => Later.cell B2.out.lt B2.out.c9
  have zc36 : ∀ p : Later (w3.alloc (.cells #[.int .i64 k.id, .int .i64 k.spec.nodes, .int .i64 k.spec.cores, .int .i64 k.spec.gpus, .string k.spec.tag, .bool k.spec.whole, .int .i64 k.spec.long, .int .i64 k.spec.prio, .slice A2 m2 c2, .int .i64 k.state, .int .i64 k.came, .int .i64 k.frm, .int .i64 k.to] 26)), p.now.cell? ⟨w3.heap.size, 10, none⟩ = some (.int .i64 k.came) := fun _ => Later.cell B2.out.lt B2.out.c10
  have zc37 : ∀ p : Later (w3.alloc (.cells #[.int .i64 k.id, .int .i64 k.spec.nodes, .int .i64 k.spec.cores, .int .i64 k.spec.gpus, .string k.spec.tag, .bool k.spec.whole, .int .i64 k.spec.long, .int .i64 k.spec.prio, .slice A2 m2 c2, .int .i64 k.state, .int .i64 k.came, .int .i64 k.frm, .int .i64 k.to] 26)), p.now.cell? ⟨w3.heap.size, 11, none⟩ = some (.int .i64 k.frm) := fun _ => Later.cell B2.out.lt B2.out.c11
  have zc38 : ∀ p : Later (w3.alloc (.cells #[.int .i64 k.id, .int .i64 k.spec.nodes, .int .i64 k.spec.cores, .int .i64 k.spec.gpus, .string k.spec.tag, .bool k.spec.whole, .int .i64 k.spec.long, .int .i64 k.spec.prio, .slice A2 m2 c2, .int .i64 k.state, .int .i64 k.came, .int .i64 k.frm, .int .i64 k.to] 26)), p.now.cell? ⟨w3.heap.size, 12, none⟩ = some (.int .i64 k.to) := fun _ => Later.cell B2.out.lt B2.out.c12
  refine wp_region_later (by kernel_rfl) (by kernel_rfl) ?_
  repeat (first | go_big_quiet_skip | (go_big_quiet_want; go_big_quiet_op; first | go_big_quiet_on | (apply Exists.intro; refine ⟨fun pz => ?_, ?_⟩; (first | (go_at_call 9; exact Calls.later_of (h11_right H (JA.out.next pz.bel) hmm RV.out)) | (go_at_call 10; exact Calls.later_of (refRightJ_b (JA.out.next pz.bel) RV.out)) | (go_at_call 11; exact Calls.later_of (refSameJ_b (J1.out.next pz.bel) (J2.out.next pz.bel) (sameJ_iff.2 rfl))) | (go_at_call 12; exact Calls.later_of (h11_over H IS.out OV.out)) | (go_at_call 13; exact Calls.later_of (h11_name H IS.out NM.out)) | fail); go_big_quiet_on)))
  refine wpQuiet_nil ?_
  intro _ hw'
  obtain ⟨pz, rfl⟩ := hw'
  obtain ⟨w4, hb⟩ := pz
  try dsimp only
  clear zc0 zc1 zc2 zc3 zc4 zc5 zc6 zc7 zc8 zc9 zc10 zc11 zc12 zc13 zc14 zc15 zc16 zc17 zc18 zc19 zc20 zc21 zc22 zc23 zc24 zc25 zc26 zc27 zc28 zc29 zc30 zc31 zc32 zc33 zc34 zc35 zc36 zc37 zc38
  have HBq := Lib.hid (HB.out.trans (hb.mono HB.out.size))
  clear HB
  have HB := HBq
  clear HBq
  have BXq := Lib.hid (BX.out.next hb)
  clear BX
  have BX := BXq
  clear BXq
  have JAq := Lib.hid (JA.out.next hb)
  clear JA
  have JA := JAq
  clear JAq
  have J1q := Lib.hid (J1.out.next hb)
  clear J1
  have J1 := J1q
  clear J1q
  have B1q := Lib.hid (B1.out.next hb)
  clear B1
  have B1 := B1q
  clear B1q
  have J2q := Lib.hid (J2.out.next hb)
  clear J2
  have J2 := J2q
  clear J2q
  have B2q := Lib.hid (B2.out.next hb)
  clear B2
  have B2 := B2q
  clear B2q
  clear hb
  clear q0 q1 q2 q3 q4 q5 q6 q7 q8 q9 q10 q11 q12 r0 r1 r2 r3 r4 r5 r6 r7 r8 r9 r10 r11 r12 s0 s1 s2 s3 s4 s5 s6 s7 s8 s9 s10 s11 s12
  go_wp2
  go_ret
  exact ⟨rfl, HB.out⟩

set_option maxRecDepth 100000 in
set_option maxHeartbeats 8000000 in
theorem jobRight_3 (H : JobOk) (A : Option Addr) (m c : Nat) (j : Jb) (what now st : Int) (w : World) (hj : JAsk w A m c j) (hw : I64 what) (hn : I64 now) (hs : I64 st) (h40 : ¬ 40 < m) (h1 : 6 < st) :
    Calls Try.prog 3 #[.agg #[.int .i64 j.id, .int .i64 j.spec.nodes, .int .i64 j.spec.cores, .int .i64 j.spec.gpus, .string j.spec.tag, .bool j.spec.whole, .int .i64 j.spec.long, .int .i64 j.spec.prio, .slice A m c, .int .i64 j.state, .int .i64 j.came, .int .i64 j.frm, .int .i64 j.to], .int .i64 what, .int .i64 now, .int .i64 st] w fun e w' => e = .returned (.bool true) ∧ Below w.heap.size w w' := by
  obtain ⟨W, hW⟩ : ∃ W, W = w.alloc (jO j A m c) := ⟨_, rfl⟩
  have BX : Hid (BoxJ W w.heap.size j A m c) := Lib.hid (by rw [hW]; exact boxJ_new w j A m c)
  have hb0 : Below w.heap.size w W := by rw [hW]; exact (Below.refl _ _).alloc (Nat.le_refl _) _
  have HB := Lib.hid hb0
  have JA := Lib.hid (hj.next hb0)
  unfold jO at hW
  have d1 : decide (0 ≤ st) = true := decide_eq_true (by omega)
  have d2 : decide (st ≤ 6) = false := decide_eq_false (by omega)
  have d3 : decide (3 ≤ st) = true := decide_eq_true (by omega)
  have hov : overJ st = false := decide_eq_false (by omega)
  have hnm : nameJ st = ⟨#[]⟩ := name_out (by omega)
  clear h1
  have h40d : decide ((40 : Int) < (m : Int)) = false := by simp; omega
  have hmm : m ≤ 100 := by omega
  have IW := Lib.hid hw
  have IN := Lib.hid hn
  have IS := Lib.hid hs
  have OV := Lib.hid hov
  have NM := Lib.hid hnm
  obtain ⟨v, hv⟩ : ∃ v, rightJ j = v := ⟨_, rfl⟩
  obtain ⟨k, hk⟩ : ∃ k, doJ j what now = k := ⟨_, rfl⟩
  obtain ⟨er, he⟩ : ∃ e, doE j what now = e := ⟨_, rfl⟩
  have RV := Lib.hid hv
  have EK := Lib.hid hk
  have EE := Lib.hid he
  clear hb0 hj hw hn hs h40 hov hnm hv hk he
  go_enter Try.func3, Try.ntmps3
  go_wp2_with fail
  rw [← hW]
  refine (awake11_any H _).mono ?_
  rintro e w1 ⟨rfl, hb⟩
  have HBq := Lib.hid (HB.out.trans (hb.mono HB.out.size))
  clear HB
  have HB := HBq
  clear HBq
  have BXq := Lib.hid (BX.out.next hb)
  clear BX
  have BX := BXq
  clear BXq
  have JAq := Lib.hid (JA.out.next hb)
  clear JA
  have JA := JAq
  clear JAq
  clear hb
  clear hW
  have q0 := BX.out.c0
  have q1 := BX.out.c1
  have q2 := BX.out.c2
  have q3 := BX.out.c3
  have q4 := BX.out.c4
  have q5 := BX.out.c5
  have q6 := BX.out.c6
  have q7 := BX.out.c7
  have q8 := BX.out.c8
  have q9 := BX.out.c9
  have q10 := BX.out.c10
  have q11 := BX.out.c11
  have q12 := BX.out.c12
  go_wp2_with fail
  refine (h11_do H JA.out hmm IW.out IN.out EK.out EE.out).mono ?_
  rintro e w2 ⟨⟨A1, m1, c1, rfl, hj1⟩, hb⟩
  have HBq := Lib.hid (HB.out.trans (hb.mono HB.out.size))
  clear HB
  have HB := HBq
  clear HBq
  have BXq := Lib.hid (BX.out.next hb)
  clear BX
  have BX := BXq
  clear BXq
  have JAq := Lib.hid (JA.out.next hb)
  clear JA
  have JA := JAq
  clear JAq
  clear hb
  have J1 := Lib.hid hj1
  clear hj1
  clear q0 q1 q2 q3 q4 q5 q6 q7 q8 q9 q10 q11 q12
  have hb := Below.alloc (Below.refl w2.heap.size w2) (Nat.le_refl _) (.cells #[.int .i64 k.id, .int .i64 k.spec.nodes, .int .i64 k.spec.cores, .int .i64 k.spec.gpus, .string k.spec.tag, .bool k.spec.whole, .int .i64 k.spec.long, .int .i64 k.spec.prio, .slice A1 m1 c1, .int .i64 k.state, .int .i64 k.came, .int .i64 k.frm, .int .i64 k.to] 26)
  have B1q := Lib.hid (boxJ_new w2 k A1 m1 c1)
  have HBq := Lib.hid (HB.out.trans (hb.mono HB.out.size))
  clear HB
  have HB := HBq
  clear HBq
  have BXq := Lib.hid (BX.out.next hb)
  clear BX
  have BX := BXq
  clear BXq
  have JAq := Lib.hid (JA.out.next hb)
  clear JA
  have JA := JAq
  clear JAq
  have J1q := Lib.hid (J1.out.next hb)
  clear J1
  have J1 := J1q
  clear J1q
  clear hb
  have B1 := B1q
  clear B1q
  have q0 := BX.out.c0
  have q1 := BX.out.c1
  have q2 := BX.out.c2
  have q3 := BX.out.c3
  have q4 := BX.out.c4
  have q5 := BX.out.c5
  have q6 := BX.out.c6
  have q7 := BX.out.c7
  have q8 := BX.out.c8
  have q9 := BX.out.c9
  have q10 := BX.out.c10
  have q11 := BX.out.c11
  have q12 := BX.out.c12
  go_wp2_with fail
  refine (refDoJ_b JA.out IN.out EK.out EE.out).mono ?_
  rintro e w3 ⟨⟨A2, m2, c2, rfl, hj2⟩, hb⟩
  have HBq := Lib.hid (HB.out.trans (hb.mono HB.out.size))
  clear HB
  have HB := HBq
  clear HBq
  have BXq := Lib.hid (BX.out.next hb)
  clear BX
  have BX := BXq
  clear BXq
  have JAq := Lib.hid (JA.out.next hb)
  clear JA
  have JA := JAq
  clear JAq
  have J1q := Lib.hid (J1.out.next hb)
  clear J1
  have J1 := J1q
  clear J1q
  have B1q := Lib.hid (B1.out.next hb)
  clear B1
  have B1 := B1q
  clear B1q
  clear hb
  have J2 := Lib.hid hj2
  clear hj2
  clear q0 q1 q2 q3 q4 q5 q6 q7 q8 q9 q10 q11 q12
  have hb := Below.alloc (Below.refl w3.heap.size w3) (Nat.le_refl _) (.cells #[.int .i64 k.id, .int .i64 k.spec.nodes, .int .i64 k.spec.cores, .int .i64 k.spec.gpus, .string k.spec.tag, .bool k.spec.whole, .int .i64 k.spec.long, .int .i64 k.spec.prio, .slice A2 m2 c2, .int .i64 k.state, .int .i64 k.came, .int .i64 k.frm, .int .i64 k.to] 26)
  have B2q := Lib.hid (boxJ_new w3 k A2 m2 c2)
  have HBq := Lib.hid (HB.out.trans (hb.mono HB.out.size))
  clear HB
  have HB := HBq
  clear HBq
  have BXq := Lib.hid (BX.out.next hb)
  clear BX
  have BX := BXq
  clear BXq
  have JAq := Lib.hid (JA.out.next hb)
  clear JA
  have JA := JAq
  clear JAq
  have J1q := Lib.hid (J1.out.next hb)
  clear J1
  have J1 := J1q
  clear J1q
  have B1q := Lib.hid (B1.out.next hb)
  clear B1
  have B1 := B1q
  clear B1q
  have J2q := Lib.hid (J2.out.next hb)
  clear J2
  have J2 := J2q
  clear J2q
  clear hb
  have B2 := B2q
  clear B2q
  have q0 := BX.out.c0
  have q1 := BX.out.c1
  have q2 := BX.out.c2
  have q3 := BX.out.c3
  have q4 := BX.out.c4
  have q5 := BX.out.c5
  have q6 := BX.out.c6
  have q7 := BX.out.c7
  have q8 := BX.out.c8
  have q9 := BX.out.c9
  have q10 := BX.out.c10
  have q11 := BX.out.c11
  have q12 := BX.out.c12
  have r0 := B1.out.c0
  have r1 := B1.out.c1
  have r2 := B1.out.c2
  have r3 := B1.out.c3
  have r4 := B1.out.c4
  have r5 := B1.out.c5
  have r6 := B1.out.c6
  have r7 := B1.out.c7
  have r8 := B1.out.c8
  have r9 := B1.out.c9
  have r10 := B1.out.c10
  have r11 := B1.out.c11
  have r12 := B1.out.c12
  have s0 := B2.out.c0
  have s1 := B2.out.c1
  have s2 := B2.out.c2
  have s3 := B2.out.c3
  have s4 := B2.out.c4
  have s5 := B2.out.c5
  have s6 := B2.out.c6
  have s7 := B2.out.c7
  have s8 := B2.out.c8
  have s9 := B2.out.c9
  have s10 := B2.out.c10
  have s11 := B2.out.c11
  have s12 := B2.out.c12
  go_wp2
  have zc0 : ∀ p : Later (w3.alloc (.cells #[.int .i64 k.id, .int .i64 k.spec.nodes, .int .i64 k.spec.cores, .int .i64 k.spec.gpus, .string k.spec.tag, .bool k.spec.whole, .int .i64 k.spec.long, .int .i64 k.spec.prio, .slice A2 m2 c2, .int .i64 k.state, .int .i64 k.came, .int .i64 k.frm, .int .i64 k.to] 26)), p.now.cell? ⟨w.heap.size, 0, none⟩ = some (.int .i64 j.id) := fun _ => Later.cell BX.out.lt BX.out.c0
  have zc1 : ∀ p : Later (w3.alloc (.cells #[.int .i64 k.id, .int .i64 k.spec.nodes, .int .i64 k.spec.cores, .int .i64 k.spec.gpus, .string k.spec.tag, .bool k.spec.whole, .int .i64 k.spec.long, .int .i64 k.spec.prio, .slice A2 m2 c2, .int .i64 k.state, .int .i64 k.came, .int .i64 k.frm, .int .i64 k.to] 26)), p.now.cell? ⟨w.heap.size, 1, none⟩ = some (.int .i64 j.spec.nodes) := fun _ => Later.cell BX.out.lt BX.out.c1
  have zc2 : ∀ p : Later (w3.alloc (.cells #[.int .i64 k.id, .int .i64 k.spec.nodes, .int .i64 k.spec.cores, .int .i64 k.spec.gpus, .string k.spec.tag, .bool k.spec.whole, .int .i64 k.spec.long, .int .i64 k.spec.prio, .slice A2 m2 c2, .int .i64 k.state, .int .i64 k.came, .int .i64 k.frm, .int .i64 k.to] 26)), p.now.cell? ⟨w.heap.size, 2, none⟩ = some (.int .i64 j.spec.cores) := fun _ => Later.cell BX.out.lt BX.out.c2
  have zc3 : ∀ p : Later (w3.alloc (.cells #[.int .i64 k.id, .int .i64 k.spec.nodes, .int .i64 k.spec.cores, .int .i64 k.spec.gpus, .string k.spec.tag, .bool k.spec.whole, .int .i64 k.spec.long, .int .i64 k.spec.prio, .slice A2 m2 c2, .int .i64 k.state, .int .i64 k.came, .int .i64 k.frm, .int .i64 k.to] 26)), p.now.cell? ⟨w.heap.size, 3, none⟩ = some (.int .i64 j.spec.gpus) := fun _ => Later.cell BX.out.lt BX.out.c3
  have zc4 : ∀ p : Later (w3.alloc (.cells #[.int .i64 k.id, .int .i64 k.spec.nodes, .int .i64 k.spec.cores, .int .i64 k.spec.gpus, .string k.spec.tag, .bool k.spec.whole, .int .i64 k.spec.long, .int .i64 k.spec.prio, .slice A2 m2 c2, .int .i64 k.state, .int .i64 k.came, .int .i64 k.frm, .int .i64 k.to] 26)), p.now.cell? ⟨w.heap.size, 4, none⟩ = some (.string j.spec.tag) := fun _ => Later.cell BX.out.lt BX.out.c4
  have zc5 : ∀ p : Later (w3.alloc (.cells #[.int .i64 k.id, .int .i64 k.spec.nodes, .int .i64 k.spec.cores, .int .i64 k.spec.gpus, .string k.spec.tag, .bool k.spec.whole, .int .i64 k.spec.long, .int .i64 k.spec.prio, .slice A2 m2 c2, .int .i64 k.state, .int .i64 k.came, .int .i64 k.frm, .int .i64 k.to] 26)), p.now.cell? ⟨w.heap.size, 5, none⟩ = some (.bool j.spec.whole) := fun _ => Later.cell BX.out.lt BX.out.c5
  have zc6 : ∀ p : Later (w3.alloc (.cells #[.int .i64 k.id, .int .i64 k.spec.nodes, .int .i64 k.spec.cores, .int .i64 k.spec.gpus, .string k.spec.tag, .bool k.spec.whole, .int .i64 k.spec.long, .int .i64 k.spec.prio, .slice A2 m2 c2, .int .i64 k.state, .int .i64 k.came, .int .i64 k.frm, .int .i64 k.to] 26)), p.now.cell? ⟨w.heap.size, 6, none⟩ = some (.int .i64 j.spec.long) := fun _ => Later.cell BX.out.lt BX.out.c6
  have zc7 : ∀ p : Later (w3.alloc (.cells #[.int .i64 k.id, .int .i64 k.spec.nodes, .int .i64 k.spec.cores, .int .i64 k.spec.gpus, .string k.spec.tag, .bool k.spec.whole, .int .i64 k.spec.long, .int .i64 k.spec.prio, .slice A2 m2 c2, .int .i64 k.state, .int .i64 k.came, .int .i64 k.frm, .int .i64 k.to] 26)), p.now.cell? ⟨w.heap.size, 7, none⟩ = some (.int .i64 j.spec.prio) := fun _ => Later.cell BX.out.lt BX.out.c7
  have zc8 : ∀ p : Later (w3.alloc (.cells #[.int .i64 k.id, .int .i64 k.spec.nodes, .int .i64 k.spec.cores, .int .i64 k.spec.gpus, .string k.spec.tag, .bool k.spec.whole, .int .i64 k.spec.long, .int .i64 k.spec.prio, .slice A2 m2 c2, .int .i64 k.state, .int .i64 k.came, .int .i64 k.frm, .int .i64 k.to] 26)), p.now.cell? ⟨w.heap.size, 8, none⟩ = some (.slice A m c) := fun _ => Later.cell BX.out.lt BX.out.c8
  have zc9 : ∀ p : Later (w3.alloc (.cells #[.int .i64 k.id, .int .i64 k.spec.nodes, .int .i64 k.spec.cores, .int .i64 k.spec.gpus, .string k.spec.tag, .bool k.spec.whole, .int .i64 k.spec.long, .int .i64 k.spec.prio, .slice A2 m2 c2, .int .i64 k.state, .int .i64 k.came, .int .i64 k.frm, .int .i64 k.to] 26)), p.now.cell? ⟨w.heap.size, 9, none⟩ = some (.int .i64 j.state) := fun _ => Later.cell BX.out.lt BX.out.c9
  have zc10 : ∀ p : Later (w3.alloc (.cells #[.int .i64 k.id, .int .i64 k.spec.nodes, .int .i64 k.spec.cores, .int .i64 k.spec.gpus, .string k.spec.tag, .bool k.spec.whole, .int .i64 k.spec.long, .int .i64 k.spec.prio, .slice A2 m2 c2, .int .i64 k.state, .int .i64 k.came, .int .i64 k.frm, .int .i64 k.to] 26)), p.now.cell? ⟨w.heap.size, 10, none⟩ = some (.int .i64 j.came) := fun _ => Later.cell BX.out.lt BX.out.c10
  have zc11 : ∀ p : Later (w3.alloc (.cells #[.int .i64 k.id, .int .i64 k.spec.nodes, .int .i64 k.spec.cores, .int .i64 k.spec.gpus, .string k.spec.tag, .bool k.spec.whole, .int .i64 k.spec.long, .int .i64 k.spec.prio, .slice A2 m2 c2, .int .i64 k.state, .int .i64 k.came, .int .i64 k.frm, .int .i64 k.to] 26)), p.now.cell? ⟨w.heap.size, 11, none⟩ = some (.int .i64 j.frm) := fun _ => Later.cell BX.out.lt BX.out.c11
  have zc12 : ∀ p : Later (w3.alloc (.cells #[.int .i64 k.id, .int .i64 k.spec.nodes, .int .i64 k.spec.cores, .int .i64 k.spec.gpus, .string k.spec.tag, .bool k.spec.whole, .int .i64 k.spec.long, .int .i64 k.spec.prio, .slice A2 m2 c2, .int .i64 k.state, .int .i64 k.came, .int .i64 k.frm, .int .i64 k.to] 26)), p.now.cell? ⟨w.heap.size, 12, none⟩ = some (.int .i64 j.to) := fun _ => Later.cell BX.out.lt BX.out.c12
  have zc13 : ∀ p : Later (w3.alloc (.cells #[.int .i64 k.id, .int .i64 k.spec.nodes, .int .i64 k.spec.cores, .int .i64 k.spec.gpus, .string k.spec.tag, .bool k.spec.whole, .int .i64 k.spec.long, .int .i64 k.spec.prio, .slice A2 m2 c2, .int .i64 k.state, .int .i64 k.came, .int .i64 k.frm, .int .i64 k.to] 26)), p.now.cell? ⟨w2.heap.size, 0, none⟩ = some (.int .i64 k.id) := fun _ => Later.cell B1.out.lt B1.out.c0
  have zc14 : ∀ p : Later (w3.alloc (.cells #[.int .i64 k.id, .int .i64 k.spec.nodes, .int .i64 k.spec.cores, .int .i64 k.spec.gpus, .string k.spec.tag, .bool k.spec.whole, .int .i64 k.spec.long, .int .i64 k.spec.prio, .slice A2 m2 c2, .int .i64 k.state, .int .i64 k.came, .int .i64 k.frm, .int .i64 k.to] 26)), p.now.cell? ⟨w2.heap.size, 1, none⟩ = some (.int .i64 k.spec.nodes) := fun _ => Later.cell B1.out.lt B1.out.c1
  have zc15 : ∀ p : Later (w3.alloc (.cells #[.int .i64 k.id, .int .i64 k.spec.nodes, .int .i64 k.spec.cores, .int .i64 k.spec.gpus, .string k.spec.tag, .bool k.spec.whole, .int .i64 k.spec.long, .int .i64 k.spec.prio, .slice A2 m2 c2, .int .i64 k.state, .int .i64 k.came, .int .i64 k.frm, .int .i64 k.to] 26)), p.now.cell? ⟨w2.heap.size, 2, none⟩ = some (.int .i64 k.spec.cores) := fun _ => Later.cell B1.out.lt B1.out.c2
  have zc16 : ∀ p : Later (w3.alloc (.cells #[.int .i64 k.id, .int .i64 k.spec.nodes, .int .i64 k.spec.cores, .int .i64 k.spec.gpus, .string k.spec.tag, .bool k.spec.whole, .int .i64 k.spec.long, .int .i64 k.spec.prio, .slice A2 m2 c2, .int .i64 k.state, .int .i64 k.came, .int .i64 k.frm, .int .i64 k.to] 26)), p.now.cell? ⟨w2.heap.size, 3, none⟩ = some (.int .i64 k.spec.gpus) := fun _ => Later.cell B1.out.lt B1.out.c3
  have zc17 : ∀ p : Later (w3.alloc (.cells #[.int .i64 k.id, .int .i64 k.spec.nodes, .int .i64 k.spec.cores, .int .i64 k.spec.gpus, .string k.spec.tag, .bool k.spec.whole, .int .i64 k.spec.long, .int .i64 k.spec.prio, .slice A2 m2 c2, .int .i64 k.state, .int .i64 k.came, .int .i64 k.frm, .int .i64 k.to] 26)), p.now.cell? ⟨w2.heap.size, 4, none⟩ = some (.string k.spec.tag) := fun _ => Later.cell B1.out.lt B1.out.c4
  have zc18 : ∀ p : Later (w3.alloc (.cells #[.int .i64 k.id, .int .i64 k.spec.nodes, .int .i64 k.spec.cores, .int .i64 k.spec.gpus, .string k.spec.tag, .bool k.spec.whole, .int .i64 k.spec.long, .int .i64 k.spec.prio, .slice A2 m2 c2, .int .i64 k.state, .int .i64 k.came, .int .i64 k.frm, .int .i64 k.to] 26)), p.now.cell? ⟨w2.heap.size, 5, none⟩ = some (.bool k.spec.whole) := fun _ => Later.cell B1.out.lt B1.out.c5
  have zc19 : ∀ p : Later (w3.alloc (.cells #[.int .i64 k.id, .int .i64 k.spec.nodes, .int .i64 k.spec.cores, .int .i64 k.spec.gpus, .string k.spec.tag, .bool k.spec.whole, .int .i64 k.spec.long, .int .i64 k.spec.prio, .slice A2 m2 c2, .int .i64 k.state, .int .i64 k.came, .int .i64 k.frm, .int .i64 k.to] 26)), p.now.cell? ⟨w2.heap.size, 6, none⟩ = some (.int .i64 k.spec.long) := fun _ => Later.cell B1.out.lt B1.out.c6
  have zc20 : ∀ p : Later (w3.alloc (.cells #[.int .i64 k.id, .int .i64 k.spec.nodes, .int .i64 k.spec.cores, .int .i64 k.spec.gpus, .string k.spec.tag, .bool k.spec.whole, .int .i64 k.spec.long, .int .i64 k.spec.prio, .slice A2 m2 c2, .int .i64 k.state, .int .i64 k.came, .int .i64 k.frm, .int .i64 k.to] 26)), p.now.cell? ⟨w2.heap.size, 7, none⟩ = some (.int .i64 k.spec.prio) := fun _ => Later.cell B1.out.lt B1.out.c7
  have zc21 : ∀ p : Later (w3.alloc (.cells #[.int .i64 k.id, .int .i64 k.spec.nodes, .int .i64 k.spec.cores, .int .i64 k.spec.gpus, .string k.spec.tag, .bool k.spec.whole, .int .i64 k.spec.long, .int .i64 k.spec.prio, .slice A2 m2 c2, .int .i64 k.state, .int .i64 k.came, .int .i64 k.frm, .int .i64 k.to] 26)), p.now.cell? ⟨w2.heap.size, 8, none⟩ = some (.slice A1 m1 c1) := fun _ => Later.cell B1.out.lt B1.out.c8
  have zc22 : ∀ p : Later (w3.alloc (.cells #[.int .i64 k.id, .int .i64 k.spec.nodes, .int .i64 k.spec.cores, .int .i64 k.spec.gpus, .string k.spec.tag, .bool k.spec.whole, .int .i64 k.spec.long, .int .i64 k.spec.prio, .slice A2 m2 c2, .int .i64 k.state, .int .i64 k.came, .int .i64 k.frm, .int .i64 k.to] 26)), p.now.cell? ⟨w2.heap.size, 9, none⟩ = some (.int .i64 k.state) := fun _ => Later.cell B1.out.lt B1.out.c9
  have zc23 : ∀ p : Later (w3.alloc (.cells #[.int .i64 k.id, .int .i64 k.spec.nodes, .int .i64 k.spec.cores, .int .i64 k.spec.gpus, .string k.spec.tag, .bool k.spec.whole, .int .i64 k.spec.long, .int .i64 k.spec.prio, .slice A2 m2 c2, .int .i64 k.state, .int .i64 k.came, .int .i64 k.frm, .int .i64 k.to] 26)), p.now.cell? ⟨w2.heap.size, 10, none⟩ = some (.int .i64 k.came) := fun _ => Later.cell B1.out.lt B1.out.c10
  have zc24 : ∀ p : Later (w3.alloc (.cells #[.int .i64 k.id, .int .i64 k.spec.nodes, .int .i64 k.spec.cores, .int .i64 k.spec.gpus, .string k.spec.tag, .bool k.spec.whole, .int .i64 k.spec.long, .int .i64 k.spec.prio, .slice A2 m2 c2, .int .i64 k.state, .int .i64 k.came, .int .i64 k.frm, .int .i64 k.to] 26)), p.now.cell? ⟨w2.heap.size, 11, none⟩ = some (.int .i64 k.frm) := fun _ => Later.cell B1.out.lt B1.out.c11
  have zc25 : ∀ p : Later (w3.alloc (.cells #[.int .i64 k.id, .int .i64 k.spec.nodes, .int .i64 k.spec.cores, .int .i64 k.spec.gpus, .string k.spec.tag, .bool k.spec.whole, .int .i64 k.spec.long, .int .i64 k.spec.prio, .slice A2 m2 c2, .int .i64 k.state, .int .i64 k.came, .int .i64 k.frm, .int .i64 k.to] 26)), p.now.cell? ⟨w2.heap.size, 12, none⟩ = some (.int .i64 k.to) := fun _ => Later.cell B1.out.lt B1.out.c12
  have zc26 : ∀ p : Later (w3.alloc (.cells #[.int .i64 k.id, .int .i64 k.spec.nodes, .int .i64 k.spec.cores, .int .i64 k.spec.gpus, .string k.spec.tag, .bool k.spec.whole, .int .i64 k.spec.long, .int .i64 k.spec.prio, .slice A2 m2 c2, .int .i64 k.state, .int .i64 k.came, .int .i64 k.frm, .int .i64 k.to] 26)), p.now.cell? ⟨w3.heap.size, 0, none⟩ = some (.int .i64 k.id) := fun _ => Later.cell B2.out.lt B2.out.c0
  have zc27 : ∀ p : Later (w3.alloc (.cells #[.int .i64 k.id, .int .i64 k.spec.nodes, .int .i64 k.spec.cores, .int .i64 k.spec.gpus, .string k.spec.tag, .bool k.spec.whole, .int .i64 k.spec.long, .int .i64 k.spec.prio, .slice A2 m2 c2, .int .i64 k.state, .int .i64 k.came, .int .i64 k.frm, .int .i64 k.to] 26)), p.now.cell? ⟨w3.heap.size, 1, none⟩ = some (.int .i64 k.spec.nodes) := fun _ => Later.cell B2.out.lt B2.out.c1
  have zc28 : ∀ p : Later (w3.alloc (.cells #[.int .i64 k.id, .int .i64 k.spec.nodes, .int .i64 k.spec.cores, .int .i64 k.spec.gpus, .string k.spec.tag, .bool k.spec.whole, .int .i64 k.spec.long, .int .i64 k.spec.prio, .slice A2 m2 c2, .int .i64 k.state, .int .i64 k.came, .int .i64 k.frm, .int .i64 k.to] 26)), p.now.cell? ⟨w3.heap.size, 2, none⟩ = some (.int .i64 k.spec.cores) := fun _ => Later.cell B2.out.lt B2.out.c2
  have zc29 : ∀ p : Later (w3.alloc (.cells #[.int .i64 k.id, .int .i64 k.spec.nodes, .int .i64 k.spec.cores, .int .i64 k.spec.gpus, .string k.spec.tag, .bool k.spec.whole, .int .i64 k.spec.long, .int .i64 k.spec.prio, .slice A2 m2 c2, .int .i64 k.state, .int .i64 k.came, .int .i64 k.frm, .int .i64 k.to] 26)), p.now.cell? ⟨w3.heap.size, 3, none⟩ = some (.int .i64 k.spec.gpus) := fun _ => Later.cell B2.out.lt B2.out.c3
  have zc30 : ∀ p : Later (w3.alloc (.cells #[.int .i64 k.id, .int .i64 k.spec.nodes, .int .i64 k.spec.cores, .int .i64 k.spec.gpus, .string k.spec.tag, .bool k.spec.whole, .int .i64 k.spec.long, .int .i64 k.spec.prio, .slice A2 m2 c2, .int .i64 k.state, .int .i64 k.came, .int .i64 k.frm, .int .i64 k.to] 26)), p.now.cell? ⟨w3.heap.size, 4, none⟩ = some (.string k.spec.tag) := fun _ => Later.cell B2.out.lt B2.out.c4
  have zc31 : ∀ p : Later (w3.alloc (.cells #[.int .i64 k.id, .int .i64 k.spec.nodes, .int .i64 k.spec.cores, .int .i64 k.spec.gpus, .string k.spec.tag, .bool k.spec.whole, .int .i64 k.spec.long, .int .i64 k.spec.prio, .slice A2 m2 c2, .int .i64 k.state, .int .i64 k.came, .int .i64 k.frm, .int .i64 k.to] 26)), p.now.cell? ⟨w3.heap.size, 5, none⟩ = some (.bool k.spec.whole) := fun _ => Later.cell B2.out.lt B2.out.c5
  have zc32 : ∀ p : Later (w3.alloc (.cells #[.int .i64 k.id, .int .i64 k.spec.nodes, .int .i64 k.spec.cores, .int .i64 k.spec.gpus, .string k.spec.tag, .bool k.spec.whole, .int .i64 k.spec.long, .int .i64 k.spec.prio, .slice A2 m2 c2, .int .i64 k.state, .int .i64 k.came, .int .i64 k.frm, .int .i64 k.to] 26)), p.now.cell? ⟨w3.heap.size, 6, none⟩ = some (.int .i64 k.spec.long) := fun _ => Later.cell B2.out.lt B2.out.c6
  have zc33 : ∀ p : Later (w3.alloc (.cells #[.int .i64 k.id, .int .i64 k.spec.nodes, .int .i64 k.spec.cores, .int .i64 k.spec.gpus, .string k.spec.tag, .bool k.spec.whole, .int .i64 k.spec.long, .int .i64 k.spec.prio, .slice A2 m2 c2, .int .i64 k.state, .int .i64 k.came, .int .i64 k.frm, .int .i64 k.to] 26)), p.now.cell? ⟨w3.heap.size, 7, none⟩ = some (.int .i64 k.spec.prio) := fun _ => Later.cell B2.out.lt B2.out.c7
  have zc34 : ∀ p : Later (w3.alloc (.cells #[.int .i64 k.id, .int .i64 k.spec.nodes, .int .i64 k.spec.cores, .int .i64 k.spec.gpus, .string k.spec.tag, .bool k.spec.whole, .int .i64 k.spec.long, .int .i64 k.spec.prio, .slice A2 m2 c2, .int .i64 k.state, .int .i64 k.came, .int .i64 k.frm, .int .i64 k.to] 26)), p.now.cell? ⟨w3.heap.size, 8, none⟩ = some (.slice A2 m2 c2) := fun _ => Later.cell B2.out.lt B2.out.c8
  have zc35 : ∀ p : Later (w3.alloc (.cells #[.int .i64 k.id, .int .i64 k.spec.nodes, .int .i64 k.spec.cores, .int .i64 k.spec.gpus, .string k.spec.tag, .bool k.spec.whole, .int .i64 k.spec.long, .int .i64 k.spec.prio, .slice A2 m2 c2, .int .i64 k.state, .int .i64 k.came, .int .i64 k.frm, .int .i64 k.to] 26)), p.now.cell? ⟨w3.heap.size, 9, none⟩ = some (.int .i64 k.state) := fun _ => Later.cell B2.out.lt B2.out.c9
  have zc36 : ∀ p : Later (w3.alloc (.cells #[.int .i64 k.id, .int .i64 k.spec.nodes, .int .i64 k.spec.cores, .int .i64 k.spec.gpus, .string k.spec.tag, .bool k.spec.whole, .int .i64 k.spec.long, .int .i64 k.spec.prio, .slice A2 m2 c2, .int .i64 k.state, .int .i64 k.came, .int .i64 k.frm, .int .i64 k.to] 26)), p.now.cell? ⟨w3.heap.size, 10, none⟩ = some (.int .i64 k.came) := fun _ => Later.cell B2.out.lt B2.out.c10
  have zc37 : ∀ p : Later (w3.alloc (.cells #[.int .i64 k.id, .int .i64 k.spec.nodes, .int .i64 k.spec.cores, .int .i64 k.spec.gpus, .string k.spec.tag, .bool k.spec.whole, .int .i64 k.spec.long, .int .i64 k.spec.prio, .slice A2 m2 c2, .int .i64 k.state, .int .i64 k.came, .int .i64 k.frm, .int .i64 k.to] 26)), p.now.cell? ⟨w3.heap.size, 11, none⟩ = some (.int .i64 k.frm) := fun _ => Later.cell B2.out.lt B2.out.c11
  have zc38 : ∀ p : Later (w3.alloc (.cells #[.int .i64 k.id, .int .i64 k.spec.nodes, .int .i64 k.spec.cores, .int .i64 k.spec.gpus, .string k.spec.tag, .bool k.spec.whole, .int .i64 k.spec.long, .int .i64 k.spec.prio, .slice A2 m2 c2, .int .i64 k.state, .int .i64 k.came, .int .i64 k.frm, .int .i64 k.to] 26)), p.now.cell? ⟨w3.heap.size, 12, none⟩ = some (.int .i64 k.to) := fun _ => Later.cell B2.out.lt B2.out.c12
  refine wp_region_later (by kernel_rfl) (by kernel_rfl) ?_
  repeat (first | go_big_quiet_skip | (go_big_quiet_want; go_big_quiet_op; first | go_big_quiet_on | (apply Exists.intro; refine ⟨fun pz => ?_, ?_⟩; (first | (go_at_call 9; exact Calls.later_of (h11_right H (JA.out.next pz.bel) hmm RV.out)) | (go_at_call 10; exact Calls.later_of (refRightJ_b (JA.out.next pz.bel) RV.out)) | (go_at_call 11; exact Calls.later_of (refSameJ_b (J1.out.next pz.bel) (J2.out.next pz.bel) (sameJ_iff.2 rfl))) | (go_at_call 12; exact Calls.later_of (h11_over H IS.out OV.out)) | (go_at_call 13; exact Calls.later_of (h11_name H IS.out NM.out)) | fail); go_big_quiet_on)))
  refine wpQuiet_nil ?_
  intro _ hw'
  obtain ⟨pz, rfl⟩ := hw'
  obtain ⟨w4, hb⟩ := pz
  try dsimp only
  clear zc0 zc1 zc2 zc3 zc4 zc5 zc6 zc7 zc8 zc9 zc10 zc11 zc12 zc13 zc14 zc15 zc16 zc17 zc18 zc19 zc20 zc21 zc22 zc23 zc24 zc25 zc26 zc27 zc28 zc29 zc30 zc31 zc32 zc33 zc34 zc35 zc36 zc37 zc38
  have HBq := Lib.hid (HB.out.trans (hb.mono HB.out.size))
  clear HB
  have HB := HBq
  clear HBq
  have BXq := Lib.hid (BX.out.next hb)
  clear BX
  have BX := BXq
  clear BXq
  have JAq := Lib.hid (JA.out.next hb)
  clear JA
  have JA := JAq
  clear JAq
  have J1q := Lib.hid (J1.out.next hb)
  clear J1
  have J1 := J1q
  clear J1q
  have B1q := Lib.hid (B1.out.next hb)
  clear B1
  have B1 := B1q
  clear B1q
  have J2q := Lib.hid (J2.out.next hb)
  clear J2
  have J2 := J2q
  clear J2q
  have B2q := Lib.hid (B2.out.next hb)
  clear B2
  have B2 := B2q
  clear B2q
  clear hb
  clear q0 q1 q2 q3 q4 q5 q6 q7 q8 q9 q10 q11 q12 r0 r1 r2 r3 r4 r5 r6 r7 r8 r9 r10 r11 r12 s0 s1 s2 s3 s4 s5 s6 s7 s8 s9 s10 s11 s12
  go_wp2
  go_ret
  exact ⟨rfl, HB.out⟩

theorem jobRight_walk (H : JobOk) (A : Option Addr) (m c : Nat) (j : Jb) (what now st : Int) (w : World) (hj : JAsk w A m c j) (hw : I64 what) (hn : I64 now) (hs : I64 st) : Calls Try.prog 3 #[.agg #[.int .i64 j.id, .int .i64 j.spec.nodes, .int .i64 j.spec.cores, .int .i64 j.spec.gpus, .string j.spec.tag, .bool j.spec.whole, .int .i64 j.spec.long, .int .i64 j.spec.prio, .slice A m c, .int .i64 j.state, .int .i64 j.came, .int .i64 j.frm, .int .i64 j.to], .int .i64 what, .int .i64 now, .int .i64 st] w fun e w' => e = .returned (.bool true) ∧ Below w.heap.size w w' := by
  by_cases h40 : 40 < m
  · exact jobRight_l H A m c j what now st w hj hw hn hs h40
  by_cases h1 : st < 0
  · exact jobRight_0 H A m c j what now st w hj hw hn hs h40 h1
  by_cases h2 : st < 3
  · exact jobRight_1 H A m c j what now st w hj hw hn hs h40 (by omega) h2
  by_cases h3 : st ≤ 6
  · exact jobRight_2 H A m c j what now st w hj hw hn hs h40 (by omega) h3
  · exact jobRight_3 H A m c j what now st w hj hw hn hs h40 (by omega)

end Go.Proofs.Ytpaabeadiokgoaa
