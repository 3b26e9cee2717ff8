/- The reference's Same of layer 11. Written by gen/gen_job.py. -/
import Derived.Test.YtimgdlddfnglaaaMg13
namespace Go.Proofs.Ytimgdlddfnglaaa
open Go.RowKit

def sameJ (j i : Jb) : Bool := j.id == i.id && (sameSp j.spec i.spec && (j.state == i.state && (j.came == i.came && (j.frm == i.frm && (j.to == i.to && sameB j.needs i.needs)))))
theorem sameJ_iff {j i : Jb} : sameJ j i = true ↔ j = i := by
  unfold sameJ
  simp only [Bool.and_eq_true, beq_iff_eq, sameSp_iff, sameB_iff]
  obtain ⟨a0, a1, a2, a3, a4, a5, a6⟩ := j
  obtain ⟨b0, b1, b2, b3, b4, b5, b6⟩ := i
  constructor
  · rintro ⟨h0, h1, h2, h3, h4, h5, h6⟩
    dsimp only at *
    subst h0 h1 h2 h3 h4 h5 h6; rfl
  · intro h
    injection h with h0 h1 h2 h3 h4 h5 h6
    exact ⟨h0, h1, h3, h4, h5, h6, h2⟩
set_option maxRecDepth 100000 in
set_option maxHeartbeats 8000000 in
theorem refSame_0 (A : Option Addr) (m c : Nat) (j : Jb) (A2 : Option Addr) (m2 c2 : Nat) (i : Jb) (w : World) (hj : JAsk w A m c j) (hi : JAsk w A2 m2 c2 i) (e0 : ¬ j.id = i.id) :
    Calls Try.prog 21 #[.agg #[.int .i64 j.id, .int .i64 j.spec.nodes, .int .i64 j.spec.cores, .int .i64 j.spec.gpus, .string j.spec.tag, .bool j.spec.whole, .int .i64 j.spec.long, .int .i64 j.spec.prio, .slice A m c, .int .i64 j.state, .int .i64 j.came, .int .i64 j.frm, .int .i64 j.to], .agg #[.int .i64 i.id, .int .i64 i.spec.nodes, .int .i64 i.spec.cores, .int .i64 i.spec.gpus, .string i.spec.tag, .bool i.spec.whole, .int .i64 i.spec.long, .int .i64 i.spec.prio, .slice A2 m2 c2, .int .i64 i.state, .int .i64 i.came, .int .i64 i.frm, .int .i64 i.to]] w fun e w' => e = .returned (.bool (sameJ j i)) ∧ Below w.heap.size w w' := by
  obtain ⟨W, hW⟩ : ∃ W, W = (w.alloc (jO j A m c)).alloc (jO i A2 m2 c2) := ⟨_, rfl⟩
  have BX : Hid (BoxJ W w.heap.size j A m c) := Lib.hid (by rw [hW]; exact (boxJ_new w j A m c).next ((Below.refl _ _).alloc (Nat.le_refl _) _))
  have BY : Hid (BoxJ W (w.heap.size + 1) i A2 m2 c2) := Lib.hid (by
    have := boxJ_new (w.alloc (jO j A m c)) i A2 m2 c2
    rw [show (w.alloc (jO j A m c)).heap.size = w.heap.size + 1 by simp] at this
    rw [hW]; exact this)
  have hb0 : Below w.heap.size w W := by rw [hW]; exact ((Below.refl _ _).alloc (Nat.le_refl _) _).alloc (by simp) _
  have HB := Lib.hid hb0
  have JA := Lib.hid (hj.next hb0)
  have JB := Lib.hid (hi.next hb0)
  unfold jO at hW
  have g0 : (j.id == i.id) = false := by rw [beq_eq_false_iff_ne]; exact e0
  have HV : Hid (sameJ j i = false) := Lib.hid (by unfold sameJ; rw [g0]; rfl)
  have q0 := BX.out.c0
  have r0 := BY.out.c0
  have q1 := BX.out.c1
  have r1 := BY.out.c1
  have q2 := BX.out.c2
  have r2 := BY.out.c2
  have q3 := BX.out.c3
  have r3 := BY.out.c3
  have q4 := BX.out.c4
  have r4 := BY.out.c4
  have q5 := BX.out.c5
  have r5 := BY.out.c5
  have q6 := BX.out.c6
  have r6 := BY.out.c6
  have q7 := BX.out.c7
  have r7 := BY.out.c7
  have q8 := BX.out.c8
  have r8 := BY.out.c8
  have q9 := BX.out.c9
  have r9 := BY.out.c9
  have q10 := BX.out.c10
  have r10 := BY.out.c10
  have q11 := BX.out.c11
  have r11 := BY.out.c11
  have q12 := BX.out.c12
  have r12 := BY.out.c12
  rw [hW] at q0 r0 q1 r1 q2 r2 q3 r3 q4 r4 q5 r5 q6 r6 q7 r7 q8 r8 q9 r9 q10 r10 q11 r11 q12 r12
  rw [hW] at HB
  clear hj hi hb0 BX BY JA JB hW W e0
  rw [HV.out]
  go_enter Try.func21, Try.ntmps21
  go_wp2
  go_ret
  exact ⟨rfl, HB.out⟩

set_option maxRecDepth 100000 in
set_option maxHeartbeats 8000000 in
theorem refSame_1 (A : Option Addr) (m c : Nat) (j : Jb) (A2 : Option Addr) (m2 c2 : Nat) (i : Jb) (w : World) (hj : JAsk w A m c j) (hi : JAsk w A2 m2 c2 i) (e0 : j.id = i.id) (e1 : ¬ j.spec = i.spec) :
    Calls Try.prog 21 #[.agg #[.int .i64 j.id, .int .i64 j.spec.nodes, .int .i64 j.spec.cores, .int .i64 j.spec.gpus, .string j.spec.tag, .bool j.spec.whole, .int .i64 j.spec.long, .int .i64 j.spec.prio, .slice A m c, .int .i64 j.state, .int .i64 j.came, .int .i64 j.frm, .int .i64 j.to], .agg #[.int .i64 i.id, .int .i64 i.spec.nodes, .int .i64 i.spec.cores, .int .i64 i.spec.gpus, .string i.spec.tag, .bool i.spec.whole, .int .i64 i.spec.long, .int .i64 i.spec.prio, .slice A2 m2 c2, .int .i64 i.state, .int .i64 i.came, .int .i64 i.frm, .int .i64 i.to]] w fun e w' => e = .returned (.bool (sameJ j i)) ∧ Below w.heap.size w w' := by
  obtain ⟨W, hW⟩ : ∃ W, W = (w.alloc (jO j A m c)).alloc (jO i A2 m2 c2) := ⟨_, rfl⟩
  have BX : Hid (BoxJ W w.heap.size j A m c) := Lib.hid (by rw [hW]; exact (boxJ_new w j A m c).next ((Below.refl _ _).alloc (Nat.le_refl _) _))
  have BY : Hid (BoxJ W (w.heap.size + 1) i A2 m2 c2) := Lib.hid (by
    have := boxJ_new (w.alloc (jO j A m c)) i A2 m2 c2
    rw [show (w.alloc (jO j A m c)).heap.size = w.heap.size + 1 by simp] at this
    rw [hW]; exact this)
  have hb0 : Below w.heap.size w W := by rw [hW]; exact ((Below.refl _ _).alloc (Nat.le_refl _) _).alloc (by simp) _
  have HB := Lib.hid hb0
  have JA := Lib.hid (hj.next hb0)
  have JB := Lib.hid (hi.next hb0)
  unfold jO at hW
  have g0 : (j.id == i.id) = true := by rw [beq_iff_eq]; exact e0
  have HQ : ∀ X : World, _ := fun X => run_eqS j.spec.nodes j.spec.cores j.spec.gpus i.spec.nodes i.spec.cores i.spec.gpus j.spec.long j.spec.prio i.spec.long i.spec.prio j.spec.tag i.spec.tag j.spec.whole i.spec.whole X
  have hsq : sameSp ⟨j.spec.nodes, j.spec.cores, j.spec.gpus, j.spec.tag, j.spec.whole, j.spec.long, j.spec.prio⟩ ⟨i.spec.nodes, i.spec.cores, i.spec.gpus, i.spec.tag, i.spec.whole, i.spec.long, i.spec.prio⟩ = false := by rw [← Bool.not_eq_true]; exact fun h => e1 (sameSp_iff.1 h)
  rw [hsq] at HQ
  clear hsq
  have g1 : sameSp j.spec i.spec = false := by rw [← Bool.not_eq_true]; exact fun h => e1 (sameSp_iff.1 h)
  have HV : Hid (sameJ j i = false) := Lib.hid (by unfold sameJ; rw [g0, g1]; rfl)
  have q0 := BX.out.c0
  have r0 := BY.out.c0
  have q1 := BX.out.c1
  have r1 := BY.out.c1
  have q2 := BX.out.c2
  have r2 := BY.out.c2
  have q3 := BX.out.c3
  have r3 := BY.out.c3
  have q4 := BX.out.c4
  have r4 := BY.out.c4
  have q5 := BX.out.c5
  have r5 := BY.out.c5
  have q6 := BX.out.c6
  have r6 := BY.out.c6
  have q7 := BX.out.c7
  have r7 := BY.out.c7
  have q8 := BX.out.c8
  have r8 := BY.out.c8
  have q9 := BX.out.c9
  have r9 := BY.out.c9
  have q10 := BX.out.c10
  have r10 := BY.out.c10
  have q11 := BX.out.c11
  have r11 := BY.out.c11
  have q12 := BX.out.c12
  have r12 := BY.out.c12
  rw [hW] at q0 r0 q1 r1 q2 r2 q3 r3 q4 r4 q5 r5 q6 r6 q7 r7 q8 r8 q9 r9 q10 r10 q11 r11 q12 r12
  rw [hW] at HB
  clear hj hi hb0 BX BY JA JB hW W e0 e1
  rw [HV.out]
  go_enter Try.func21, Try.ntmps21
  go_wp2
  go_ret
  exact ⟨rfl, HB.out⟩

set_option maxRecDepth 100000 in
set_option maxHeartbeats 8000000 in
theorem refSame_2 (A : Option Addr) (m c : Nat) (j : Jb) (A2 : Option Addr) (m2 c2 : Nat) (i : Jb) (w : World) (hj : JAsk w A m c j) (hi : JAsk w A2 m2 c2 i) (e0 : j.id = i.id) (e1 : j.spec = i.spec) (e2 : ¬ j.state = i.state) :
    Calls Try.prog 21 #[.agg #[.int .i64 j.id, .int .i64 j.spec.nodes, .int .i64 j.spec.cores, .int .i64 j.spec.gpus, .string j.spec.tag, .bool j.spec.whole, .int .i64 j.spec.long, .int .i64 j.spec.prio, .slice A m c, .int .i64 j.state, .int .i64 j.came, .int .i64 j.frm, .int .i64 j.to], .agg #[.int .i64 i.id, .int .i64 i.spec.nodes, .int .i64 i.spec.cores, .int .i64 i.spec.gpus, .string i.spec.tag, .bool i.spec.whole, .int .i64 i.spec.long, .int .i64 i.spec.prio, .slice A2 m2 c2, .int .i64 i.state, .int .i64 i.came, .int .i64 i.frm, .int .i64 i.to]] w fun e w' => e = .returned (.bool (sameJ j i)) ∧ Below w.heap.size w w' := by
  obtain ⟨W, hW⟩ : ∃ W, W = (w.alloc (jO j A m c)).alloc (jO i A2 m2 c2) := ⟨_, rfl⟩
  have BX : Hid (BoxJ W w.heap.size j A m c) := Lib.hid (by rw [hW]; exact (boxJ_new w j A m c).next ((Below.refl _ _).alloc (Nat.le_refl _) _))
  have BY : Hid (BoxJ W (w.heap.size + 1) i A2 m2 c2) := Lib.hid (by
    have := boxJ_new (w.alloc (jO j A m c)) i A2 m2 c2
    rw [show (w.alloc (jO j A m c)).heap.size = w.heap.size + 1 by simp] at this
    rw [hW]; exact this)
  have hb0 : Below w.heap.size w W := by rw [hW]; exact ((Below.refl _ _).alloc (Nat.le_refl _) _).alloc (by simp) _
  have HB := Lib.hid hb0
  have JA := Lib.hid (hj.next hb0)
  have JB := Lib.hid (hi.next hb0)
  unfold jO at hW
  have g0 : (j.id == i.id) = true := by rw [beq_iff_eq]; exact e0
  have HQ : ∀ X : World, _ := fun X => run_eqS j.spec.nodes j.spec.cores j.spec.gpus i.spec.nodes i.spec.cores i.spec.gpus j.spec.long j.spec.prio i.spec.long i.spec.prio j.spec.tag i.spec.tag j.spec.whole i.spec.whole X
  have hsq : sameSp ⟨j.spec.nodes, j.spec.cores, j.spec.gpus, j.spec.tag, j.spec.whole, j.spec.long, j.spec.prio⟩ ⟨i.spec.nodes, i.spec.cores, i.spec.gpus, i.spec.tag, i.spec.whole, i.spec.long, i.spec.prio⟩ = true := sameSp_iff.2 e1
  rw [hsq] at HQ
  clear hsq
  have g1 : sameSp j.spec i.spec = true := sameSp_iff.2 e1
  have g2 : (j.state == i.state) = false := by rw [beq_eq_false_iff_ne]; exact e2
  have HV : Hid (sameJ j i = false) := Lib.hid (by unfold sameJ; rw [g0, g1, g2]; rfl)
  have q0 := BX.out.c0
  have r0 := BY.out.c0
  have q1 := BX.out.c1
  have r1 := BY.out.c1
  have q2 := BX.out.c2
  have r2 := BY.out.c2
  have q3 := BX.out.c3
  have r3 := BY.out.c3
  have q4 := BX.out.c4
  have r4 := BY.out.c4
  have q5 := BX.out.c5
  have r5 := BY.out.c5
  have q6 := BX.out.c6
  have r6 := BY.out.c6
  have q7 := BX.out.c7
  have r7 := BY.out.c7
  have q8 := BX.out.c8
  have r8 := BY.out.c8
  have q9 := BX.out.c9
  have r9 := BY.out.c9
  have q10 := BX.out.c10
  have r10 := BY.out.c10
  have q11 := BX.out.c11
  have r11 := BY.out.c11
  have q12 := BX.out.c12
  have r12 := BY.out.c12
  rw [hW] at q0 r0 q1 r1 q2 r2 q3 r3 q4 r4 q5 r5 q6 r6 q7 r7 q8 r8 q9 r9 q10 r10 q11 r11 q12 r12
  rw [hW] at HB
  clear hj hi hb0 BX BY JA JB hW W e0 e1 e2
  rw [HV.out]
  go_enter Try.func21, Try.ntmps21
  go_wp2
  go_ret
  exact ⟨rfl, HB.out⟩

set_option maxRecDepth 100000 in
set_option maxHeartbeats 8000000 in
theorem refSame_3 (A : Option Addr) (m c : Nat) (j : Jb) (A2 : Option Addr) (m2 c2 : Nat) (i : Jb) (w : World) (hj : JAsk w A m c j) (hi : JAsk w A2 m2 c2 i) (e0 : j.id = i.id) (e1 : j.spec = i.spec) (e2 : j.state = i.state) (e3 : ¬ j.came = i.came) :
    Calls Try.prog 21 #[.agg #[.int .i64 j.id, .int .i64 j.spec.nodes, .int .i64 j.spec.cores, .int .i64 j.spec.gpus, .string j.spec.tag, .bool j.spec.whole, .int .i64 j.spec.long, .int .i64 j.spec.prio, .slice A m c, .int .i64 j.state, .int .i64 j.came, .int .i64 j.frm, .int .i64 j.to], .agg #[.int .i64 i.id, .int .i64 i.spec.nodes, .int .i64 i.spec.cores, .int .i64 i.spec.gpus, .string i.spec.tag, .bool i.spec.whole, .int .i64 i.spec.long, .int .i64 i.spec.prio, .slice A2 m2 c2, .int .i64 i.state, .int .i64 i.came, .int .i64 i.frm, .int .i64 i.to]] w fun e w' => e = .returned (.bool (sameJ j i)) ∧ Below w.heap.size w w' := by
  obtain ⟨W, hW⟩ : ∃ W, W = (w.alloc (jO j A m c)).alloc (jO i A2 m2 c2) := ⟨_, rfl⟩
  have BX : Hid (BoxJ W w.heap.size j A m c) := Lib.hid (by rw [hW]; exact (boxJ_new w j A m c).next ((Below.refl _ _).alloc (Nat.le_refl _) _))
  have BY : Hid (BoxJ W (w.heap.size + 1) i A2 m2 c2) := Lib.hid (by
    have := boxJ_new (w.alloc (jO j A m c)) i A2 m2 c2
    rw [show (w.alloc (jO j A m c)).heap.size = w.heap.size + 1 by simp] at this
    rw [hW]; exact this)
  have hb0 : Below w.heap.size w W := by rw [hW]; exact ((Below.refl _ _).alloc (Nat.le_refl _) _).alloc (by simp) _
  have HB := Lib.hid hb0
  have JA := Lib.hid (hj.next hb0)
  have JB := Lib.hid (hi.next hb0)
  unfold jO at hW
  have g0 : (j.id == i.id) = true := by rw [beq_iff_eq]; exact e0
  have HQ : ∀ X : World, _ := fun X => run_eqS j.spec.nodes j.spec.cores j.spec.gpus i.spec.nodes i.spec.cores i.spec.gpus j.spec.long j.spec.prio i.spec.long i.spec.prio j.spec.tag i.spec.tag j.spec.whole i.spec.whole X
  have hsq : sameSp ⟨j.spec.nodes, j.spec.cores, j.spec.gpus, j.spec.tag, j.spec.whole, j.spec.long, j.spec.prio⟩ ⟨i.spec.nodes, i.spec.cores, i.spec.gpus, i.spec.tag, i.spec.whole, i.spec.long, i.spec.prio⟩ = true := sameSp_iff.2 e1
  rw [hsq] at HQ
  clear hsq
  have g1 : sameSp j.spec i.spec = true := sameSp_iff.2 e1
  have g2 : (j.state == i.state) = true := by rw [beq_iff_eq]; exact e2
  have g3 : (j.came == i.came) = false := by rw [beq_eq_false_iff_ne]; exact e3
  have HV : Hid (sameJ j i = false) := Lib.hid (by unfold sameJ; rw [g0, g1, g2, g3]; rfl)
  have q0 := BX.out.c0
  have r0 := BY.out.c0
  have q1 := BX.out.c1
  have r1 := BY.out.c1
  have q2 := BX.out.c2
  have r2 := BY.out.c2
  have q3 := BX.out.c3
  have r3 := BY.out.c3
  have q4 := BX.out.c4
  have r4 := BY.out.c4
  have q5 := BX.out.c5
  have r5 := BY.out.c5
  have q6 := BX.out.c6
  have r6 := BY.out.c6
  have q7 := BX.out.c7
  have r7 := BY.out.c7
  have q8 := BX.out.c8
  have r8 := BY.out.c8
  have q9 := BX.out.c9
  have r9 := BY.out.c9
  have q10 := BX.out.c10
  have r10 := BY.out.c10
  have q11 := BX.out.c11
  have r11 := BY.out.c11
  have q12 := BX.out.c12
  have r12 := BY.out.c12
  rw [hW] at q0 r0 q1 r1 q2 r2 q3 r3 q4 r4 q5 r5 q6 r6 q7 r7 q8 r8 q9 r9 q10 r10 q11 r11 q12 r12
  rw [hW] at HB
  clear hj hi hb0 BX BY JA JB hW W e0 e1 e2 e3
  rw [HV.out]
  go_enter Try.func21, Try.ntmps21
  go_wp2
  go_ret
  exact ⟨rfl, HB.out⟩

set_option maxRecDepth 100000 in
set_option maxHeartbeats 8000000 in
theorem refSame_4 (A : Option Addr) (m c : Nat) (j : Jb) (A2 : Option Addr) (m2 c2 : Nat) (i : Jb) (w : World) (hj : JAsk w A m c j) (hi : JAsk w A2 m2 c2 i) (e0 : j.id = i.id) (e1 : j.spec = i.spec) (e2 : j.state = i.state) (e3 : j.came = i.came) (e4 : ¬ j.frm = i.frm) :
    Calls Try.prog 21 #[.agg #[.int .i64 j.id, .int .i64 j.spec.nodes, .int .i64 j.spec.cores, .int .i64 j.spec.gpus, .string j.spec.tag, .bool j.spec.whole, .int .i64 j.spec.long, .int .i64 j.spec.prio, .slice A m c, .int .i64 j.state, .int .i64 j.came, .int .i64 j.frm, .int .i64 j.to], .agg #[.int .i64 i.id, .int .i64 i.spec.nodes, .int .i64 i.spec.cores, .int .i64 i.spec.gpus, .string i.spec.tag, .bool i.spec.whole, .int .i64 i.spec.long, .int .i64 i.spec.prio, .slice A2 m2 c2, .int .i64 i.state, .int .i64 i.came, .int .i64 i.frm, .int .i64 i.to]] w fun e w' => e = .returned (.bool (sameJ j i)) ∧ Below w.heap.size w w' := by
  obtain ⟨W, hW⟩ : ∃ W, W = (w.alloc (jO j A m c)).alloc (jO i A2 m2 c2) := ⟨_, rfl⟩
  have BX : Hid (BoxJ W w.heap.size j A m c) := Lib.hid (by rw [hW]; exact (boxJ_new w j A m c).next ((Below.refl _ _).alloc (Nat.le_refl _) _))
  have BY : Hid (BoxJ W (w.heap.size + 1) i A2 m2 c2) := Lib.hid (by
    have := boxJ_new (w.alloc (jO j A m c)) i A2 m2 c2
    rw [show (w.alloc (jO j A m c)).heap.size = w.heap.size + 1 by simp] at this
    rw [hW]; exact this)
  have hb0 : Below w.heap.size w W := by rw [hW]; exact ((Below.refl _ _).alloc (Nat.le_refl _) _).alloc (by simp) _
  have HB := Lib.hid hb0
  have JA := Lib.hid (hj.next hb0)
  have JB := Lib.hid (hi.next hb0)
  unfold jO at hW
  have g0 : (j.id == i.id) = true := by rw [beq_iff_eq]; exact e0
  have HQ : ∀ X : World, _ := fun X => run_eqS j.spec.nodes j.spec.cores j.spec.gpus i.spec.nodes i.spec.cores i.spec.gpus j.spec.long j.spec.prio i.spec.long i.spec.prio j.spec.tag i.spec.tag j.spec.whole i.spec.whole X
  have hsq : sameSp ⟨j.spec.nodes, j.spec.cores, j.spec.gpus, j.spec.tag, j.spec.whole, j.spec.long, j.spec.prio⟩ ⟨i.spec.nodes, i.spec.cores, i.spec.gpus, i.spec.tag, i.spec.whole, i.spec.long, i.spec.prio⟩ = true := sameSp_iff.2 e1
  rw [hsq] at HQ
  clear hsq
  have g1 : sameSp j.spec i.spec = true := sameSp_iff.2 e1
  have g2 : (j.state == i.state) = true := by rw [beq_iff_eq]; exact e2
  have g3 : (j.came == i.came) = true := by rw [beq_iff_eq]; exact e3
  have g4 : (j.frm == i.frm) = false := by rw [beq_eq_false_iff_ne]; exact e4
  have HV : Hid (sameJ j i = false) := Lib.hid (by unfold sameJ; rw [g0, g1, g2, g3, g4]; rfl)
  have q0 := BX.out.c0
  have r0 := BY.out.c0
  have q1 := BX.out.c1
  have r1 := BY.out.c1
  have q2 := BX.out.c2
  have r2 := BY.out.c2
  have q3 := BX.out.c3
  have r3 := BY.out.c3
  have q4 := BX.out.c4
  have r4 := BY.out.c4
  have q5 := BX.out.c5
  have r5 := BY.out.c5
  have q6 := BX.out.c6
  have r6 := BY.out.c6
  have q7 := BX.out.c7
  have r7 := BY.out.c7
  have q8 := BX.out.c8
  have r8 := BY.out.c8
  have q9 := BX.out.c9
  have r9 := BY.out.c9
  have q10 := BX.out.c10
  have r10 := BY.out.c10
  have q11 := BX.out.c11
  have r11 := BY.out.c11
  have q12 := BX.out.c12
  have r12 := BY.out.c12
  rw [hW] at q0 r0 q1 r1 q2 r2 q3 r3 q4 r4 q5 r5 q6 r6 q7 r7 q8 r8 q9 r9 q10 r10 q11 r11 q12 r12
  rw [hW] at HB
  clear hj hi hb0 BX BY JA JB hW W e0 e1 e2 e3 e4
  rw [HV.out]
  go_enter Try.func21, Try.ntmps21
  go_wp2
  go_ret
  exact ⟨rfl, HB.out⟩

set_option maxRecDepth 100000 in
set_option maxHeartbeats 8000000 in
theorem refSame_5 (A : Option Addr) (m c : Nat) (j : Jb) (A2 : Option Addr) (m2 c2 : Nat) (i : Jb) (w : World) (hj : JAsk w A m c j) (hi : JAsk w A2 m2 c2 i) (e0 : j.id = i.id) (e1 : j.spec = i.spec) (e2 : j.state = i.state) (e3 : j.came = i.came) (e4 : j.frm = i.frm) (e5 : ¬ j.to = i.to) :
    Calls Try.prog 21 #[.agg #[.int .i64 j.id, .int .i64 j.spec.nodes, .int .i64 j.spec.cores, .int .i64 j.spec.gpus, .string j.spec.tag, .bool j.spec.whole, .int .i64 j.spec.long, .int .i64 j.spec.prio, .slice A m c, .int .i64 j.state, .int .i64 j.came, .int .i64 j.frm, .int .i64 j.to], .agg #[.int .i64 i.id, .int .i64 i.spec.nodes, .int .i64 i.spec.cores, .int .i64 i.spec.gpus, .string i.spec.tag, .bool i.spec.whole, .int .i64 i.spec.long, .int .i64 i.spec.prio, .slice A2 m2 c2, .int .i64 i.state, .int .i64 i.came, .int .i64 i.frm, .int .i64 i.to]] w fun e w' => e = .returned (.bool (sameJ j i)) ∧ Below w.heap.size w w' := by
  obtain ⟨W, hW⟩ : ∃ W, W = (w.alloc (jO j A m c)).alloc (jO i A2 m2 c2) := ⟨_, rfl⟩
  have BX : Hid (BoxJ W w.heap.size j A m c) := Lib.hid (by rw [hW]; exact (boxJ_new w j A m c).next ((Below.refl _ _).alloc (Nat.le_refl _) _))
  have BY : Hid (BoxJ W (w.heap.size + 1) i A2 m2 c2) := Lib.hid (by
    have := boxJ_new (w.alloc (jO j A m c)) i A2 m2 c2
    rw [show (w.alloc (jO j A m c)).heap.size = w.heap.size + 1 by simp] at this
    rw [hW]; exact this)
  have hb0 : Below w.heap.size w W := by rw [hW]; exact ((Below.refl _ _).alloc (Nat.le_refl _) _).alloc (by simp) _
  have HB := Lib.hid hb0
  have JA := Lib.hid (hj.next hb0)
  have JB := Lib.hid (hi.next hb0)
  unfold jO at hW
  have g0 : (j.id == i.id) = true := by rw [beq_iff_eq]; exact e0
  have HQ : ∀ X : World, _ := fun X => run_eqS j.spec.nodes j.spec.cores j.spec.gpus i.spec.nodes i.spec.cores i.spec.gpus j.spec.long j.spec.prio i.spec.long i.spec.prio j.spec.tag i.spec.tag j.spec.whole i.spec.whole X
  have hsq : sameSp ⟨j.spec.nodes, j.spec.cores, j.spec.gpus, j.spec.tag, j.spec.whole, j.spec.long, j.spec.prio⟩ ⟨i.spec.nodes, i.spec.cores, i.spec.gpus, i.spec.tag, i.spec.whole, i.spec.long, i.spec.prio⟩ = true := sameSp_iff.2 e1
  rw [hsq] at HQ
  clear hsq
  have g1 : sameSp j.spec i.spec = true := sameSp_iff.2 e1
  have g2 : (j.state == i.state) = true := by rw [beq_iff_eq]; exact e2
  have g3 : (j.came == i.came) = true := by rw [beq_iff_eq]; exact e3
  have g4 : (j.frm == i.frm) = true := by rw [beq_iff_eq]; exact e4
  have g5 : (j.to == i.to) = false := by rw [beq_eq_false_iff_ne]; exact e5
  have HV : Hid (sameJ j i = false) := Lib.hid (by unfold sameJ; rw [g0, g1, g2, g3, g4, g5]; rfl)
  have q0 := BX.out.c0
  have r0 := BY.out.c0
  have q1 := BX.out.c1
  have r1 := BY.out.c1
  have q2 := BX.out.c2
  have r2 := BY.out.c2
  have q3 := BX.out.c3
  have r3 := BY.out.c3
  have q4 := BX.out.c4
  have r4 := BY.out.c4
  have q5 := BX.out.c5
  have r5 := BY.out.c5
  have q6 := BX.out.c6
  have r6 := BY.out.c6
  have q7 := BX.out.c7
  have r7 := BY.out.c7
  have q8 := BX.out.c8
  have r8 := BY.out.c8
  have q9 := BX.out.c9
  have r9 := BY.out.c9
  have q10 := BX.out.c10
  have r10 := BY.out.c10
  have q11 := BX.out.c11
  have r11 := BY.out.c11
  have q12 := BX.out.c12
  have r12 := BY.out.c12
  rw [hW] at q0 r0 q1 r1 q2 r2 q3 r3 q4 r4 q5 r5 q6 r6 q7 r7 q8 r8 q9 r9 q10 r10 q11 r11 q12 r12
  rw [hW] at HB
  clear hj hi hb0 BX BY JA JB hW W e0 e1 e2 e3 e4 e5
  rw [HV.out]
  go_enter Try.func21, Try.ntmps21
  go_wp2
  go_ret
  exact ⟨rfl, HB.out⟩

set_option maxRecDepth 100000 in
set_option maxHeartbeats 8000000 in
theorem refSame_6 (A : Option Addr) (m c : Nat) (j : Jb) (A2 : Option Addr) (m2 c2 : Nat) (i : Jb) (w : World) (hj : JAsk w A m c j) (hi : JAsk w A2 m2 c2 i) (e0 : j.id = i.id) (e1 : j.spec = i.spec) (e2 : j.state = i.state) (e3 : j.came = i.came) (e4 : j.frm = i.frm) (e5 : j.to = i.to) :
    Calls Try.prog 21 #[.agg #[.int .i64 j.id, .int .i64 j.spec.nodes, .int .i64 j.spec.cores, .int .i64 j.spec.gpus, .string j.spec.tag, .bool j.spec.whole, .int .i64 j.spec.long, .int .i64 j.spec.prio, .slice A m c, .int .i64 j.state, .int .i64 j.came, .int .i64 j.frm, .int .i64 j.to], .agg #[.int .i64 i.id, .int .i64 i.spec.nodes, .int .i64 i.spec.cores, .int .i64 i.spec.gpus, .string i.spec.tag, .bool i.spec.whole, .int .i64 i.spec.long, .int .i64 i.spec.prio, .slice A2 m2 c2, .int .i64 i.state, .int .i64 i.came, .int .i64 i.frm, .int .i64 i.to]] w fun e w' => e = .returned (.bool (sameJ j i)) ∧ Below w.heap.size w w' := by
  obtain ⟨W, hW⟩ : ∃ W, W = (w.alloc (jO j A m c)).alloc (jO i A2 m2 c2) := ⟨_, rfl⟩
  have BX : Hid (BoxJ W w.heap.size j A m c) := Lib.hid (by rw [hW]; exact (boxJ_new w j A m c).next ((Below.refl _ _).alloc (Nat.le_refl _) _))
  have BY : Hid (BoxJ W (w.heap.size + 1) i A2 m2 c2) := Lib.hid (by
    have := boxJ_new (w.alloc (jO j A m c)) i A2 m2 c2
    rw [show (w.alloc (jO j A m c)).heap.size = w.heap.size + 1 by simp] at this
    rw [hW]; exact this)
  have hb0 : Below w.heap.size w W := by rw [hW]; exact ((Below.refl _ _).alloc (Nat.le_refl _) _).alloc (by simp) _
  have HB := Lib.hid hb0
  have JA := Lib.hid (hj.next hb0)
  have JB := Lib.hid (hi.next hb0)
  unfold jO at hW
  have g0 : (j.id == i.id) = true := by rw [beq_iff_eq]; exact e0
  have HQ : ∀ X : World, _ := fun X => run_eqS j.spec.nodes j.spec.cores j.spec.gpus i.spec.nodes i.spec.cores i.spec.gpus j.spec.long j.spec.prio i.spec.long i.spec.prio j.spec.tag i.spec.tag j.spec.whole i.spec.whole X
  have hsq : sameSp ⟨j.spec.nodes, j.spec.cores, j.spec.gpus, j.spec.tag, j.spec.whole, j.spec.long, j.spec.prio⟩ ⟨i.spec.nodes, i.spec.cores, i.spec.gpus, i.spec.tag, i.spec.whole, i.spec.long, i.spec.prio⟩ = true := sameSp_iff.2 e1
  rw [hsq] at HQ
  clear hsq
  have g1 : sameSp j.spec i.spec = true := sameSp_iff.2 e1
  have g2 : (j.state == i.state) = true := by rw [beq_iff_eq]; exact e2
  have g3 : (j.came == i.came) = true := by rw [beq_iff_eq]; exact e3
  have g4 : (j.frm == i.frm) = true := by rw [beq_iff_eq]; exact e4
  have g5 : (j.to == i.to) = true := by rw [beq_iff_eq]; exact e5
  have HV : Hid (sameJ j i = sameB j.needs i.needs) := Lib.hid (by unfold sameJ; rw [g0, g1, g2, g3, g4, g5]; rfl)
  obtain ⟨v, hv⟩ : ∃ v, sameB j.needs i.needs = v := ⟨_, rfl⟩
  have SB := Lib.hid hv
  rw [HV.out, hv]
  have q0 := BX.out.c0
  have r0 := BY.out.c0
  have q1 := BX.out.c1
  have r1 := BY.out.c1
  have q2 := BX.out.c2
  have r2 := BY.out.c2
  have q3 := BX.out.c3
  have r3 := BY.out.c3
  have q4 := BX.out.c4
  have r4 := BY.out.c4
  have q5 := BX.out.c5
  have r5 := BY.out.c5
  have q6 := BX.out.c6
  have r6 := BY.out.c6
  have q7 := BX.out.c7
  have r7 := BY.out.c7
  have q8 := BX.out.c8
  have r8 := BY.out.c8
  have q9 := BX.out.c9
  have r9 := BY.out.c9
  have q10 := BX.out.c10
  have r10 := BY.out.c10
  have q11 := BX.out.c11
  have r11 := BY.out.c11
  have q12 := BX.out.c12
  have r12 := BY.out.c12
  rw [hW] at q0 r0 q1 r1 q2 r2 q3 r3 q4 r4 q5 r5 q6 r6 q7 r7 q8 r8 q9 r9 q10 r10 q11 r11 q12 r12
  clear hj hi hb0 hv e0 e1 e2 e3 e4 e5
  go_enter Try.func21, Try.ntmps21
  go_wp2_with fail
  rw [← hW]
  refine (ri_same JA.out.reads JB.out.reads JA.out.few JB.out.few SB.out).mono ?_
  rintro e w1 ⟨rfl, hb⟩
  have HBq := Lib.hid (HB.out.trans (hb.mono HB.out.size))
  clear HB
  have HB := HBq
  clear HBq
  have BXq := Lib.hid (BX.out.next hb)
  clear BX
  have BX := BXq
  clear BXq
  have BYq := Lib.hid (BY.out.next hb)
  clear BY
  have BY := BYq
  clear BYq
  have JAq := Lib.hid (JA.out.next hb)
  clear JA
  have JA := JAq
  clear JAq
  have JBq := Lib.hid (JB.out.next hb)
  clear JB
  have JB := JBq
  clear JBq
  clear hb
  clear hW q0 r0 q1 r1 q2 r2 q3 r3 q4 r4 q5 r5 q6 r6 q7 r7 q8 r8 q9 r9 q10 r10 q11 r11 q12 r12
  go_wp2
  go_ret
  exact ⟨rfl, HB.out⟩

theorem refSameJ_any (A : Option Addr) (m c : Nat) (j : Jb) (A2 : Option Addr) (m2 c2 : Nat) (i : Jb) (w : World) (hj : JAsk w A m c j) (hi : JAsk w A2 m2 c2 i) :
    Calls Try.prog 21 #[.agg #[.int .i64 j.id, .int .i64 j.spec.nodes, .int .i64 j.spec.cores, .int .i64 j.spec.gpus, .string j.spec.tag, .bool j.spec.whole, .int .i64 j.spec.long, .int .i64 j.spec.prio, .slice A m c, .int .i64 j.state, .int .i64 j.came, .int .i64 j.frm, .int .i64 j.to], .agg #[.int .i64 i.id, .int .i64 i.spec.nodes, .int .i64 i.spec.cores, .int .i64 i.spec.gpus, .string i.spec.tag, .bool i.spec.whole, .int .i64 i.spec.long, .int .i64 i.spec.prio, .slice A2 m2 c2, .int .i64 i.state, .int .i64 i.came, .int .i64 i.frm, .int .i64 i.to]] w fun e w' => e = .returned (.bool (sameJ j i)) ∧ Below w.heap.size w w' := by
  by_cases e0 : j.id = i.id
  case neg => exact refSame_0 A m c j A2 m2 c2 i w hj hi e0
  by_cases e1 : j.spec = i.spec
  case neg => exact refSame_1 A m c j A2 m2 c2 i w hj hi e0 e1
  by_cases e2 : j.state = i.state
  case neg => exact refSame_2 A m c j A2 m2 c2 i w hj hi e0 e1 e2
  by_cases e3 : j.came = i.came
  case neg => exact refSame_3 A m c j A2 m2 c2 i w hj hi e0 e1 e2 e3
  by_cases e4 : j.frm = i.frm
  case neg => exact refSame_4 A m c j A2 m2 c2 i w hj hi e0 e1 e2 e3 e4
  by_cases e5 : j.to = i.to
  case neg => exact refSame_5 A m c j A2 m2 c2 i w hj hi e0 e1 e2 e3 e4 e5
  exact refSame_6 A m c j A2 m2 c2 i w hj hi e0 e1 e2 e3 e4 e5
theorem refSameJ_b {A : Option Addr} {m c : Nat} {j : Jb} {A2 : Option Addr} {m2 c2 : Nat} {i : Jb} {w : World} {v : Bool} (hj : JAsk w A m c j) (hi : JAsk w A2 m2 c2 i) (h : sameJ j i = v) :
    Calls Try.prog 21 #[.agg #[.int .i64 j.id, .int .i64 j.spec.nodes, .int .i64 j.spec.cores, .int .i64 j.spec.gpus, .string j.spec.tag, .bool j.spec.whole, .int .i64 j.spec.long, .int .i64 j.spec.prio, .slice A m c, .int .i64 j.state, .int .i64 j.came, .int .i64 j.frm, .int .i64 j.to], .agg #[.int .i64 i.id, .int .i64 i.spec.nodes, .int .i64 i.spec.cores, .int .i64 i.spec.gpus, .string i.spec.tag, .bool i.spec.whole, .int .i64 i.spec.long, .int .i64 i.spec.prio, .slice A2 m2 c2, .int .i64 i.state, .int .i64 i.came, .int .i64 i.frm, .int .i64 i.to]] w fun e w' => e = .returned (.bool v) ∧ Below w.heap.size w w' := by
  subst h; exact refSameJ_any A m c j A2 m2 c2 i w hj hi

end Go.Proofs.Ytimgdlddfnglaaa
