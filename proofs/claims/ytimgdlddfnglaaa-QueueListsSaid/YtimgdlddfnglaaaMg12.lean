/- The reference's time and Right of layer 11. Written by gen/gen_job.py. -/
import Derived.LoopTactic
import Derived.Test.YtimgdlddfnglaaaMg05
import Derived.Test.YtimgdlddfnglaaaMg11
namespace Go.Proofs.Ytimgdlddfnglaaa
open Go.RowKit

def timeJ (t : Int) : Bool := decide (TimeOk t)
theorem refTime_any (t : Int) (w : World) : Calls Try.prog 44 #[.int .i64 t] w fun e w' => e = .returned (.bool (timeJ t)) ∧ Below w.heap.size w w' := by
  have HB := Lib.hid (Below.refl w.heap.size w)
  by_cases h1 : 0 ≤ t
  · by_cases h2 : t ≤ 4611686018427387904
    · rw [show timeJ t = true from decide_eq_true ⟨h1, h2⟩]
      go_enter Try.func44, Try.ntmps44
      go_wp2
      go_ret
      exact ⟨rfl, HB.out⟩
    · rw [show timeJ t = false from decide_eq_false (fun h => h2 h.2)]
      go_enter Try.func44, Try.ntmps44
      go_wp2
      go_ret
      exact ⟨rfl, HB.out⟩
  · rw [show timeJ t = false from decide_eq_false (fun h => h1 h.1)]
    go_enter Try.func44, Try.ntmps44
    go_wp2
    go_ret
    exact ⟨rfl, HB.out⟩
theorem refTime_b {t : Int} {w : World} {v : Bool} (h : timeJ t = v) : Calls Try.prog 44 #[.int .i64 t] w fun e w' => e = .returned (.bool v) ∧ Below w.heap.size w w' := by
  subst h; exact refTime_any t w
theorem timeJ_yes {t : Int} (h : timeJ t = true) : TimeOk t := of_decide_eq_true h
theorem timeJ_no {t : Int} (h : timeJ t = false) : ¬ TimeOk t := of_decide_eq_false h
set_option maxRecDepth 100000 in
set_option maxHeartbeats 8000000 in
theorem refRight_h1 (A : Option Addr) (m c : Nat) (j : Jb) (w : World) (hj : JAsk w A m c j) (i1 : j.id < 1) :
    Calls Try.prog 23 #[.agg #[.int .i64 j.id, .int .i64 j.spec.nodes, .int .i64 j.spec.cores, .int .i64 j.spec.gpus, .string j.spec.tag, .bool j.spec.whole, .int .i64 j.spec.long, .int .i64 j.spec.prio, .slice A m c, .int .i64 j.state, .int .i64 j.came, .int .i64 j.frm, .int .i64 j.to]] w fun e w' => e = .returned (.bool (rightJ j)) ∧ Below w.heap.size w w' := by
  obtain ⟨W, hW⟩ : ∃ W, W = w.alloc (jO j A m c) := ⟨_, rfl⟩
  have BX : Hid (BoxJ W w.heap.size j A m c) := Lib.hid (by rw [hW]; exact boxJ_new w j A m c)
  have hb0 : Below w.heap.size w W := by rw [hW]; exact (Below.refl _ _).alloc (Nat.le_refl _) _
  have HB := Lib.hid hb0
  have JA := Lib.hid (hj.next hb0)
  have HM := Lib.hid hj.reads.1
  have hml := hj.few
  unfold maxLen at hml
  unfold jO at hW
  have HV : rightJ j = false := decide_eq_false fun h => by have := h.1.1; omega
  rw [HV]
  have d1 : decide (j.id < 1) = true := decide_eq_true i1
  have q0 := BX.out.c0
  clear BX JA hb0 hj
  rw [hW] at q0 HB
  clear hW W
  go_enter Try.func23, Try.ntmps23
  go_wp2
  go_ret
  exact ⟨rfl, HB.out⟩
set_option maxRecDepth 100000 in
set_option maxHeartbeats 8000000 in
theorem refRight_h2 (A : Option Addr) (m c : Nat) (j : Jb) (w : World) (hj : JAsk w A m c j) (i1 : ¬ j.id < 1) (i2 : 1073741824 < j.id) :
    Calls Try.prog 23 #[.agg #[.int .i64 j.id, .int .i64 j.spec.nodes, .int .i64 j.spec.cores, .int .i64 j.spec.gpus, .string j.spec.tag, .bool j.spec.whole, .int .i64 j.spec.long, .int .i64 j.spec.prio, .slice A m c, .int .i64 j.state, .int .i64 j.came, .int .i64 j.frm, .int .i64 j.to]] w fun e w' => e = .returned (.bool (rightJ j)) ∧ Below w.heap.size w w' := by
  obtain ⟨W, hW⟩ : ∃ W, W = w.alloc (jO j A m c) := ⟨_, rfl⟩
  have BX : Hid (BoxJ W w.heap.size j A m c) := Lib.hid (by rw [hW]; exact boxJ_new w j A m c)
  have hb0 : Below w.heap.size w W := by rw [hW]; exact (Below.refl _ _).alloc (Nat.le_refl _) _
  have HB := Lib.hid hb0
  have JA := Lib.hid (hj.next hb0)
  have HM := Lib.hid hj.reads.1
  have hml := hj.few
  unfold maxLen at hml
  unfold jO at hW
  have HV : rightJ j = false := decide_eq_false fun h => by have := h.1.1; omega
  rw [HV]
  have d1 : decide (j.id < 1) = false := decide_eq_false i1
  have d2 : decide (1073741824 < j.id) = true := decide_eq_true i2
  have q0 := BX.out.c0
  clear BX JA hb0 hj
  rw [hW] at q0 HB
  clear hW W
  go_enter Try.func23, Try.ntmps23
  go_wp2
  go_ret
  exact ⟨rfl, HB.out⟩
set_option maxRecDepth 100000 in
set_option maxHeartbeats 8000000 in
theorem refRight_h3 (A : Option Addr) (m c : Nat) (j : Jb) (w : World) (hj : JAsk w A m c j) (i1 : ¬ j.id < 1) (i2 : ¬ 1073741824 < j.id) (i3 : rightS j.spec = false) :
    Calls Try.prog 23 #[.agg #[.int .i64 j.id, .int .i64 j.spec.nodes, .int .i64 j.spec.cores, .int .i64 j.spec.gpus, .string j.spec.tag, .bool j.spec.whole, .int .i64 j.spec.long, .int .i64 j.spec.prio, .slice A m c, .int .i64 j.state, .int .i64 j.came, .int .i64 j.frm, .int .i64 j.to]] w fun e w' => e = .returned (.bool (rightJ j)) ∧ Below w.heap.size w w' := by
  obtain ⟨W, hW⟩ : ∃ W, W = w.alloc (jO j A m c) := ⟨_, rfl⟩
  have BX : Hid (BoxJ W w.heap.size j A m c) := Lib.hid (by rw [hW]; exact boxJ_new w j A m c)
  have hb0 : Below w.heap.size w W := by rw [hW]; exact (Below.refl _ _).alloc (Nat.le_refl _) _
  have HB := Lib.hid hb0
  have JA := Lib.hid (hj.next hb0)
  have HM := Lib.hid hj.reads.1
  have hml := hj.few
  unfold maxLen at hml
  unfold jO at hW
  have HV : rightJ j = false := decide_eq_false fun h => by have := h.1.2.1; rw [i3] at this; cases this
  rw [HV]
  have d1 : decide (j.id < 1) = false := decide_eq_false i1
  have d2 : decide (1073741824 < j.id) = false := decide_eq_false i2
  have RS := Lib.hid i3
  have q0 : W.cell? _ = _ := BX.out.c0
  have q1 : W.cell? _ = _ := BX.out.c1
  have q2 : W.cell? _ = _ := BX.out.c2
  have q3 : W.cell? _ = _ := BX.out.c3
  have q4 : W.cell? _ = _ := BX.out.c4
  have q5 : W.cell? _ = _ := BX.out.c5
  have q6 : W.cell? _ = _ := BX.out.c6
  have q7 : W.cell? _ = _ := BX.out.c7
  have q8 : W.cell? _ = _ := BX.out.c8
  have q9 : W.cell? _ = _ := BX.out.c9
  have q10 : W.cell? _ = _ := BX.out.c10
  have q11 : W.cell? _ = _ := BX.out.c11
  have q12 : W.cell? _ = _ := BX.out.c12
  rw [hW] at q0 q1 q2 q3 q4 q5 q6 q7 q8 q9 q10 q11 q12
  clear hb0 hj
  go_enter Try.func23, Try.ntmps23
  go_wp2_with fail
  rw [← hW]
  refine (refRightS_b (s := j.spec) JA.out.spec RS.out).mono ?_
  rintro e w1 ⟨rfl, hb⟩
  have HBq := Lib.hid (HB.out.trans (hb.mono HB.out.size))
  clear HB
  have HB := HBq
  clear HBq
  have BXq := Lib.hid (BX.out.next hb)
  clear BX
  have BX := BXq
  clear BXq
  have JAq := Lib.hid (JA.out.next hb)
  clear JA
  have JA := JAq
  clear JAq
  clear hb
  clear hW q0 q1 q2 q3 q4 q5 q6 q7 q8 q9 q10 q11 q12
  have q0 := BX.out.c0
  have q1 := BX.out.c1
  have q2 := BX.out.c2
  have q3 := BX.out.c3
  have q4 := BX.out.c4
  have q5 := BX.out.c5
  have q6 := BX.out.c6
  have q7 := BX.out.c7
  have q8 := BX.out.c8
  have q9 := BX.out.c9
  have q10 := BX.out.c10
  have q11 := BX.out.c11
  have q12 := BX.out.c12
  go_wp2
  go_ret
  exact ⟨rfl, HB.out⟩

set_option maxRecDepth 100000 in
set_option maxHeartbeats 8000000 in
theorem refRight_h4 (A : Option Addr) (m c : Nat) (j : Jb) (w : World) (hj : JAsk w A m c j) (i1 : ¬ j.id < 1) (i2 : ¬ 1073741824 < j.id) (i3 : rightS j.spec = true) (i4 : 16 < m) :
    Calls Try.prog 23 #[.agg #[.int .i64 j.id, .int .i64 j.spec.nodes, .int .i64 j.spec.cores, .int .i64 j.spec.gpus, .string j.spec.tag, .bool j.spec.whole, .int .i64 j.spec.long, .int .i64 j.spec.prio, .slice A m c, .int .i64 j.state, .int .i64 j.came, .int .i64 j.frm, .int .i64 j.to]] w fun e w' => e = .returned (.bool (rightJ j)) ∧ Below w.heap.size w w' := by
  obtain ⟨W, hW⟩ : ∃ W, W = w.alloc (jO j A m c) := ⟨_, rfl⟩
  have BX : Hid (BoxJ W w.heap.size j A m c) := Lib.hid (by rw [hW]; exact boxJ_new w j A m c)
  have hb0 : Below w.heap.size w W := by rw [hW]; exact (Below.refl _ _).alloc (Nat.le_refl _) _
  have HB := Lib.hid hb0
  have JA := Lib.hid (hj.next hb0)
  have HM := Lib.hid hj.reads.1
  have hml := hj.few
  unfold maxLen at hml
  unfold jO at hW
  have HV : rightJ j = false := decide_eq_false fun h => by have := h.1.2.2.1; have := HM.out; omega
  rw [HV]
  have d1 : decide (j.id < 1) = false := decide_eq_false i1
  have d2 : decide (1073741824 < j.id) = false := decide_eq_false i2
  have RS := Lib.hid i3
  have d4 : decide ((16 : Int) < (m : Int)) = true := by simp; omega
  have q0 : W.cell? _ = _ := BX.out.c0
  have q1 : W.cell? _ = _ := BX.out.c1
  have q2 : W.cell? _ = _ := BX.out.c2
  have q3 : W.cell? _ = _ := BX.out.c3
  have q4 : W.cell? _ = _ := BX.out.c4
  have q5 : W.cell? _ = _ := BX.out.c5
  have q6 : W.cell? _ = _ := BX.out.c6
  have q7 : W.cell? _ = _ := BX.out.c7
  have q8 : W.cell? _ = _ := BX.out.c8
  have q9 : W.cell? _ = _ := BX.out.c9
  have q10 : W.cell? _ = _ := BX.out.c10
  have q11 : W.cell? _ = _ := BX.out.c11
  have q12 : W.cell? _ = _ := BX.out.c12
  rw [hW] at q0 q1 q2 q3 q4 q5 q6 q7 q8 q9 q10 q11 q12
  clear hb0 hj
  go_enter Try.func23, Try.ntmps23
  go_wp2_with fail
  rw [← hW]
  refine (refRightS_b (s := j.spec) JA.out.spec RS.out).mono ?_
  rintro e w1 ⟨rfl, hb⟩
  have HBq := Lib.hid (HB.out.trans (hb.mono HB.out.size))
  clear HB
  have HB := HBq
  clear HBq
  have BXq := Lib.hid (BX.out.next hb)
  clear BX
  have BX := BXq
  clear BXq
  have JAq := Lib.hid (JA.out.next hb)
  clear JA
  have JA := JAq
  clear JAq
  clear hb
  clear hW q0 q1 q2 q3 q4 q5 q6 q7 q8 q9 q10 q11 q12
  have q0 := BX.out.c0
  have q1 := BX.out.c1
  have q2 := BX.out.c2
  have q3 := BX.out.c3
  have q4 := BX.out.c4
  have q5 := BX.out.c5
  have q6 := BX.out.c6
  have q7 := BX.out.c7
  have q8 := BX.out.c8
  have q9 := BX.out.c9
  have q10 := BX.out.c10
  have q11 := BX.out.c11
  have q12 := BX.out.c12
  go_wp2
  go_ret
  exact ⟨rfl, HB.out⟩

set_option maxRecDepth 100000 in
set_option maxHeartbeats 8000000 in
theorem refRight_h5 (A : Option Addr) (m c : Nat) (j : Jb) (w : World) (hj : JAsk w A m c j) (i1 : ¬ j.id < 1) (i2 : ¬ 1073741824 < j.id) (i3 : rightS j.spec = true) (i4 : ¬ 16 < m) (i5 : timeJ j.came = false) :
    Calls Try.prog 23 #[.agg #[.int .i64 j.id, .int .i64 j.spec.nodes, .int .i64 j.spec.cores, .int .i64 j.spec.gpus, .string j.spec.tag, .bool j.spec.whole, .int .i64 j.spec.long, .int .i64 j.spec.prio, .slice A m c, .int .i64 j.state, .int .i64 j.came, .int .i64 j.frm, .int .i64 j.to]] w fun e w' => e = .returned (.bool (rightJ j)) ∧ Below w.heap.size w w' := by
  obtain ⟨W, hW⟩ : ∃ W, W = w.alloc (jO j A m c) := ⟨_, rfl⟩
  have BX : Hid (BoxJ W w.heap.size j A m c) := Lib.hid (by rw [hW]; exact boxJ_new w j A m c)
  have hb0 : Below w.heap.size w W := by rw [hW]; exact (Below.refl _ _).alloc (Nat.le_refl _) _
  have HB := Lib.hid hb0
  have JA := Lib.hid (hj.next hb0)
  have HM := Lib.hid hj.reads.1
  have hml := hj.few
  unfold maxLen at hml
  unfold jO at hW
  have HV : rightJ j = false := decide_eq_false fun h => timeJ_no i5 h.1.2.2.2
  rw [HV]
  have d1 : decide (j.id < 1) = false := decide_eq_false i1
  have d2 : decide (1073741824 < j.id) = false := decide_eq_false i2
  have RS := Lib.hid i3
  have d4 : decide ((16 : Int) < (m : Int)) = false := by simp; omega
  have TC := Lib.hid i5
  have q0 : W.cell? _ = _ := BX.out.c0
  have q1 : W.cell? _ = _ := BX.out.c1
  have q2 : W.cell? _ = _ := BX.out.c2
  have q3 : W.cell? _ = _ := BX.out.c3
  have q4 : W.cell? _ = _ := BX.out.c4
  have q5 : W.cell? _ = _ := BX.out.c5
  have q6 : W.cell? _ = _ := BX.out.c6
  have q7 : W.cell? _ = _ := BX.out.c7
  have q8 : W.cell? _ = _ := BX.out.c8
  have q9 : W.cell? _ = _ := BX.out.c9
  have q10 : W.cell? _ = _ := BX.out.c10
  have q11 : W.cell? _ = _ := BX.out.c11
  have q12 : W.cell? _ = _ := BX.out.c12
  rw [hW] at q0 q1 q2 q3 q4 q5 q6 q7 q8 q9 q10 q11 q12
  clear hb0 hj
  go_enter Try.func23, Try.ntmps23
  go_wp2_with fail
  rw [← hW]
  refine (refRightS_b (s := j.spec) JA.out.spec RS.out).mono ?_
  rintro e w1 ⟨rfl, hb⟩
  have HBq := Lib.hid (HB.out.trans (hb.mono HB.out.size))
  clear HB
  have HB := HBq
  clear HBq
  have BXq := Lib.hid (BX.out.next hb)
  clear BX
  have BX := BXq
  clear BXq
  have JAq := Lib.hid (JA.out.next hb)
  clear JA
  have JA := JAq
  clear JAq
  clear hb
  clear hW q0 q1 q2 q3 q4 q5 q6 q7 q8 q9 q10 q11 q12
  have q0 := BX.out.c0
  have q1 := BX.out.c1
  have q2 := BX.out.c2
  have q3 := BX.out.c3
  have q4 := BX.out.c4
  have q5 := BX.out.c5
  have q6 := BX.out.c6
  have q7 := BX.out.c7
  have q8 := BX.out.c8
  have q9 := BX.out.c9
  have q10 := BX.out.c10
  have q11 := BX.out.c11
  have q12 := BX.out.c12
  go_wp2_with fail
  refine (refTime_b TC.out).mono ?_
  rintro e w2 ⟨rfl, hb⟩
  have HBq := Lib.hid (HB.out.trans (hb.mono HB.out.size))
  clear HB
  have HB := HBq
  clear HBq
  have BXq := Lib.hid (BX.out.next hb)
  clear BX
  have BX := BXq
  clear BXq
  have JAq := Lib.hid (JA.out.next hb)
  clear JA
  have JA := JAq
  clear JAq
  clear hb
  clear q0 q1 q2 q3 q4 q5 q6 q7 q8 q9 q10 q11 q12
  have q0 := BX.out.c0
  have q1 := BX.out.c1
  have q2 := BX.out.c2
  have q3 := BX.out.c3
  have q4 := BX.out.c4
  have q5 := BX.out.c5
  have q6 := BX.out.c6
  have q7 := BX.out.c7
  have q8 := BX.out.c8
  have q9 := BX.out.c9
  have q10 := BX.out.c10
  have q11 := BX.out.c11
  have q12 := BX.out.c12
  go_wp2
  go_ret
  exact ⟨rfl, HB.out⟩

set_option maxRecDepth 100000 in
set_option maxHeartbeats 8000000 in
theorem refRight_main (A : Option Addr) (m c : Nat) (j : Jb) (w : World) (hj : JAsk w A m c j) (i1 : ¬ j.id < 1) (i2 : ¬ 1073741824 < j.id) (hh : HeadOk j) :
    Calls Try.prog 23 #[.agg #[.int .i64 j.id, .int .i64 j.spec.nodes, .int .i64 j.spec.cores, .int .i64 j.spec.gpus, .string j.spec.tag, .bool j.spec.whole, .int .i64 j.spec.long, .int .i64 j.spec.prio, .slice A m c, .int .i64 j.state, .int .i64 j.came, .int .i64 j.frm, .int .i64 j.to]] w fun e w' => e = .returned (.bool (rightJ j)) ∧ Below w.heap.size w w' := by
  obtain ⟨W, hW⟩ : ∃ W, W = w.alloc (jO j A m c) := ⟨_, rfl⟩
  have BX : Hid (BoxJ W w.heap.size j A m c) := Lib.hid (by rw [hW]; exact boxJ_new w j A m c)
  have hb0 : Below w.heap.size w W := by rw [hW]; exact (Below.refl _ _).alloc (Nat.le_refl _) _
  have HB := Lib.hid hb0
  have JA := Lib.hid (hj.next hb0)
  have HM := Lib.hid hj.reads.1
  have hml := hj.few
  unfold maxLen at hml
  unfold jO at hW
  have d1 : decide (j.id < 1) = false := decide_eq_false i1
  have d2 : decide (1073741824 < j.id) = false := decide_eq_false i2
  have HH := Lib.hid hh
  have RS := Lib.hid hh.2.1
  have hm16 : m ≤ 16 := by rw [← HM.out]; exact hh.2.2.1
  have d4 : decide ((16 : Int) < (m : Int)) = false := by simp; omega
  have TC : Hid (timeJ j.came = true) := Lib.hid (decide_eq_true hh.2.2.2)
  have hid : j.id ≤ 1073741824 := hh.1.2
  have q0 : W.cell? _ = _ := BX.out.c0
  have q1 : W.cell? _ = _ := BX.out.c1
  have q2 : W.cell? _ = _ := BX.out.c2
  have q3 : W.cell? _ = _ := BX.out.c3
  have q4 : W.cell? _ = _ := BX.out.c4
  have q5 : W.cell? _ = _ := BX.out.c5
  have q6 : W.cell? _ = _ := BX.out.c6
  have q7 : W.cell? _ = _ := BX.out.c7
  have q8 : W.cell? _ = _ := BX.out.c8
  have q9 : W.cell? _ = _ := BX.out.c9
  have q10 : W.cell? _ = _ := BX.out.c10
  have q11 : W.cell? _ = _ := BX.out.c11
  have q12 : W.cell? _ = _ := BX.out.c12
  rw [hW] at q0 q1 q2 q3 q4 q5 q6 q7 q8 q9 q10 q11 q12
  clear hb0 hj hh i1 i2
  go_enter Try.func23, Try.ntmps23
  go_wp2_with fail
  rw [← hW]
  refine (refRightS_b (s := j.spec) JA.out.spec RS.out).mono ?_
  rintro e w1 ⟨rfl, hb⟩
  have HBq := Lib.hid (HB.out.trans (hb.mono HB.out.size))
  clear HB
  have HB := HBq
  clear HBq
  have BXq := Lib.hid (BX.out.next hb)
  clear BX
  have BX := BXq
  clear BXq
  have JAq := Lib.hid (JA.out.next hb)
  clear JA
  have JA := JAq
  clear JAq
  clear hb
  clear hW q0 q1 q2 q3 q4 q5 q6 q7 q8 q9 q10 q11 q12
  have q0 := BX.out.c0
  have q1 := BX.out.c1
  have q2 := BX.out.c2
  have q3 := BX.out.c3
  have q4 := BX.out.c4
  have q5 := BX.out.c5
  have q6 := BX.out.c6
  have q7 := BX.out.c7
  have q8 := BX.out.c8
  have q9 := BX.out.c9
  have q10 := BX.out.c10
  have q11 := BX.out.c11
  have q12 := BX.out.c12
  go_wp2_with fail
  refine (refTime_b TC.out).mono ?_
  rintro e w2 ⟨rfl, hb⟩
  have HBq := Lib.hid (HB.out.trans (hb.mono HB.out.size))
  clear HB
  have HB := HBq
  clear HBq
  have BXq := Lib.hid (BX.out.next hb)
  clear BX
  have BX := BXq
  clear BXq
  have JAq := Lib.hid (JA.out.next hb)
  clear JA
  have JA := JAq
  clear JAq
  clear hb
  clear q0 q1 q2 q3 q4 q5 q6 q7 q8 q9 q10 q11 q12
  have q0 := BX.out.c0
  have q1 := BX.out.c1
  have q2 := BX.out.c2
  have q3 := BX.out.c3
  have q4 := BX.out.c4
  have q5 := BX.out.c5
  have q6 := BX.out.c6
  have q7 := BX.out.c7
  have q8 := BX.out.c8
  have q9 := BX.out.c9
  have q10 := BX.out.c10
  have q11 := BX.out.c11
  have q12 := BX.out.c12
  go_wp2
  go_loopw [3] (fun kv wr => ∃ k : Nat, k ≤ m ∧ kv = .int .i64 k ∧ (∀ i, i < k → NeedAt j.id j.needs i) ∧ Below w2.heap.size w2 wr) (fun kv _ => m - (intOf kv).toNat)
  case atStart => exact ⟨0, Nat.zero_le _, rfl, fun i hi => absurd hi (by omega), Below.refl _ _⟩
  case round =>
    clear q0 q1 q2 q3 q4 q5 q6 q7 q8 q9 q10 q11 q12
    obtain ⟨k, hk, rfl, hna, hb⟩ := hrel
    have HNA := Lib.hid hna
    have HR0 := Lib.hid hb
    clear hna
    have HBq := Lib.hid (HB.out.trans (hb.mono HB.out.size))
    clear HB
    have HB := HBq
    clear HBq
    have BXq := Lib.hid (BX.out.next hb)
    clear BX
    have BX := BXq
    clear BXq
    have JAq := Lib.hid (JA.out.next hb)
    clear JA
    have JA := JAq
    clear JAq
    clear hb
    have HR1 := Lib.hid HR0.out
    clear HR0
    have q0 := BX.out.c0
    have q1 := BX.out.c1
    have q2 := BX.out.c2
    have q3 := BX.out.c3
    have q4 := BX.out.c4
    have q5 := BX.out.c5
    have q6 := BX.out.c6
    have q7 := BX.out.c7
    have q8 := BX.out.c8
    have q9 := BX.out.c9
    have q10 := BX.out.c10
    have q11 := BX.out.c11
    have q12 := BX.out.c12
    by_cases hlt : k < m
    · obtain ⟨b, off, rfl, hbl, hc⟩ := JA.out.reads.2 (by omega)
      have e0 := hc k hlt
      have hkl : k < j.needs.length := by rw [HM.out]; exact hlt
      have HKL := Lib.hid hkl
      obtain ⟨x, hx⟩ : ∃ x, j.needs.getD k 0 = x := ⟨_, rfl⟩
      rw [hx] at e0
      have HX := Lib.hid hx
      clear hkl hx
      by_cases x1 : x < 1
      · have g1 : decide (x < 1) = true := decide_eq_true x1
        have HV : Hid (rightJ j = false) := Lib.hid (decide_eq_false fun h => by have := (h.2.1 k HKL.out).1; rw [HX.out] at this; omega)
        clear hc x1
        go_wp2
        have zc0 : ∀ p : Later wr, p.now.cell? ⟨w.heap.size, 0, none⟩ = some (.int .i64 j.id) := fun _ => Later.cell BX.out.lt BX.out.c0
        have zc1 : ∀ p : Later wr, p.now.cell? ⟨w.heap.size, 8, none⟩ = some (.slice (some ⟨b, off, none⟩) m c) := fun _ => Later.cell BX.out.lt BX.out.c8
        have zc2 : ∀ p : Later wr, p.now.cell? ⟨b, off + k, none⟩ = some (.int .i64 x) := fun _ => Later.cell hbl e0
        refine wp_region_later (by kernel_rfl) (by kernel_rfl) ?_
        repeat (first | go_big_quiet_skip | (go_big_quiet_want; go_big_quiet_op; first | go_big_quiet_on | (apply Exists.intro; refine ⟨fun pz => ?_, ?_⟩; (fail); go_big_quiet_on)))
        refine wpQuiet_nil ?_
        intro _ hw'
        obtain ⟨pz, rfl⟩ := hw'
        obtain ⟨w3, hb⟩ := pz
        try dsimp only
        clear zc0 zc1 zc2
        have HBq := Lib.hid (HB.out.trans (hb.mono HB.out.size))
        clear HB
        have HB := HBq
        clear HBq
        have HR1q := Lib.hid (HR1.out.trans (hb.mono HR1.out.size))
        clear HR1
        have HR1 := HR1q
        clear HR1q
        have BXq := Lib.hid (BX.out.next hb)
        clear BX
        have BX := BXq
        clear BXq
        have JAq := Lib.hid (JA.out.next hb)
        clear JA
        have JA := JAq
        clear JAq
        clear hb
        go_wp2
        go_ret
        exact ⟨by rw [HV.out]; rfl, HB.out⟩
      have g1 : decide (x < 1) = false := decide_eq_false x1
      by_cases x2 : j.id ≤ x
      · have g2 : decide (j.id ≤ x) = true := decide_eq_true x2
        have HV : Hid (rightJ j = false) := Lib.hid (decide_eq_false fun h => by have := (h.2.1 k HKL.out).2.1; rw [HX.out] at this; omega)
        clear hc x1 x2
        go_wp2
        have zc0 : ∀ p : Later wr, p.now.cell? ⟨w.heap.size, 0, none⟩ = some (.int .i64 j.id) := fun _ => Later.cell BX.out.lt BX.out.c0
        have zc1 : ∀ p : Later wr, p.now.cell? ⟨w.heap.size, 8, none⟩ = some (.slice (some ⟨b, off, none⟩) m c) := fun _ => Later.cell BX.out.lt BX.out.c8
        have zc2 : ∀ p : Later wr, p.now.cell? ⟨b, off + k, none⟩ = some (.int .i64 x) := fun _ => Later.cell hbl e0
        refine wp_region_later (by kernel_rfl) (by kernel_rfl) ?_
        repeat (first | go_big_quiet_skip | (go_big_quiet_want; go_big_quiet_op; first | go_big_quiet_on | (apply Exists.intro; refine ⟨fun pz => ?_, ?_⟩; (fail); go_big_quiet_on)))
        refine wpQuiet_nil ?_
        intro _ hw'
        obtain ⟨pz, rfl⟩ := hw'
        obtain ⟨w3, hb⟩ := pz
        try dsimp only
        clear zc0 zc1 zc2
        have HBq := Lib.hid (HB.out.trans (hb.mono HB.out.size))
        clear HB
        have HB := HBq
        clear HBq
        have HR1q := Lib.hid (HR1.out.trans (hb.mono HR1.out.size))
        clear HR1
        have HR1 := HR1q
        clear HR1q
        have BXq := Lib.hid (BX.out.next hb)
        clear BX
        have BX := BXq
        clear BXq
        have JAq := Lib.hid (JA.out.next hb)
        clear JA
        have JA := JAq
        clear JAq
        clear hb
        go_wp2
        go_ret
        exact ⟨by rw [HV.out]; rfl, HB.out⟩
      have g2 : decide (j.id ≤ x) = false := decide_eq_false x2
      by_cases k0 : 0 < k
      · have e1 := hc (k - 1) (by omega)
        obtain ⟨y, hy⟩ : ∃ y, j.needs.getD (k - 1) 0 = y := ⟨_, rfl⟩
        rw [hy] at e1
        have HY := Lib.hid hy
        have g0 : decide (0 < k) = true := decide_eq_true k0
        have g3 : ((k : Int) - 1) = ((k - 1 : Nat) : Int) := by omega
        have hiz : (0 : Int) ≤ (k : Int) - 1 := by omega
        have hin : (k : Int) - 1 < (m : Int) := by omega
        clear hy hc
        by_cases x3 : x ≤ y
        · have g4 : decide (x ≤ y) = true := decide_eq_true x3
          have HV : Hid (rightJ j = false) := Lib.hid (decide_eq_false fun h => by have := (h.2.1 k HKL.out).2.2 k0; rw [HX.out, HY.out] at this; omega)
          clear x1 x2 x3
          go_wp2
          have zc0 : ∀ p : Later wr, p.now.cell? ⟨w.heap.size, 0, none⟩ = some (.int .i64 j.id) := fun _ => Later.cell BX.out.lt BX.out.c0
          have zc1 : ∀ p : Later wr, p.now.cell? ⟨w.heap.size, 8, none⟩ = some (.slice (some ⟨b, off, none⟩) m c) := fun _ => Later.cell BX.out.lt BX.out.c8
          have zc2 : ∀ p : Later wr, p.now.cell? ⟨b, off + k, none⟩ = some (.int .i64 x) := fun _ => Later.cell hbl e0
          have zc3 : ∀ p : Later wr, p.now.cell? ⟨b, off + (k - 1), none⟩ = some (.int .i64 y) := fun _ => Later.cell hbl e1
          refine wp_region_later (by kernel_rfl) (by kernel_rfl) ?_
          repeat (first | go_big_quiet_skip | (go_big_quiet_want; go_big_quiet_op; first | go_big_quiet_on | (apply Exists.intro; refine ⟨fun pz => ?_, ?_⟩; (fail); go_big_quiet_on)))
          refine wpQuiet_nil ?_
          intro _ hw'
          obtain ⟨pz, rfl⟩ := hw'
          obtain ⟨w3, hb⟩ := pz
          try dsimp only
          clear zc0 zc1 zc2 zc3
          have HBq := Lib.hid (HB.out.trans (hb.mono HB.out.size))
          clear HB
          have HB := HBq
          clear HBq
          have HR1q := Lib.hid (HR1.out.trans (hb.mono HR1.out.size))
          clear HR1
          have HR1 := HR1q
          clear HR1q
          have BXq := Lib.hid (BX.out.next hb)
          clear BX
          have BX := BXq
          clear BXq
          have JAq := Lib.hid (JA.out.next hb)
          clear JA
          have JA := JAq
          clear JAq
          clear hb
          go_wp2
          go_ret
          exact ⟨by rw [HV.out]; rfl, HB.out⟩
        · have g4 : decide (x ≤ y) = false := decide_eq_false x3
          have HNN : Hid (∀ i, i < k + 1 → NeedAt j.id j.needs i) := Lib.hid (fun i hi => by
            by_cases e : i = k
            · subst e; unfold NeedAt; rw [HX.out, HY.out]; omega
            · exact HNA.out i (by omega))
          clear x1 x2 x3
          go_wp2
          have zc0 : ∀ p : Later wr, p.now.cell? ⟨w.heap.size, 0, none⟩ = some (.int .i64 j.id) := fun _ => Later.cell BX.out.lt BX.out.c0
          have zc1 : ∀ p : Later wr, p.now.cell? ⟨w.heap.size, 8, none⟩ = some (.slice (some ⟨b, off, none⟩) m c) := fun _ => Later.cell BX.out.lt BX.out.c8
          have zc2 : ∀ p : Later wr, p.now.cell? ⟨b, off + k, none⟩ = some (.int .i64 x) := fun _ => Later.cell hbl e0
          have zc3 : ∀ p : Later wr, p.now.cell? ⟨b, off + (k - 1), none⟩ = some (.int .i64 y) := fun _ => Later.cell hbl e1
          refine wp_region_later (by kernel_rfl) (by kernel_rfl) ?_
          repeat (first | go_big_quiet_skip | (go_big_quiet_want; go_big_quiet_op; first | go_big_quiet_on | (apply Exists.intro; refine ⟨fun pz => ?_, ?_⟩; (fail); go_big_quiet_on)))
          refine wpQuiet_nil ?_
          intro _ hw'
          obtain ⟨pz, rfl⟩ := hw'
          obtain ⟨w3, hb⟩ := pz
          try dsimp only
          clear zc0 zc1 zc2 zc3
          have HBq := Lib.hid (HB.out.trans (hb.mono HB.out.size))
          clear HB
          have HB := HBq
          clear HBq
          have HR1q := Lib.hid (HR1.out.trans (hb.mono HR1.out.size))
          clear HR1
          have HR1 := HR1q
          clear HR1q
          have BXq := Lib.hid (BX.out.next hb)
          clear BX
          have BX := BXq
          clear BXq
          have JAq := Lib.hid (JA.out.next hb)
          clear JA
          have JA := JAq
          clear JAq
          clear hb
          go_wp2
          go_roundw
          case rel => exact ⟨k + 1, by omega, by go_num, HNN.out, HR1.out⟩
          case measure => simp [intOf]; omega
      · have g0 : decide (0 < k) = false := decide_eq_false k0
        have HNN : Hid (∀ i, i < k + 1 → NeedAt j.id j.needs i) := Lib.hid (fun i hi => by
          by_cases e : i = k
          · subst e; unfold NeedAt; rw [HX.out]; omega
          · exact HNA.out i (by omega))
        clear x1 x2 hc
        go_wp2
        have zc0 : ∀ p : Later wr, p.now.cell? ⟨w.heap.size, 0, none⟩ = some (.int .i64 j.id) := fun _ => Later.cell BX.out.lt BX.out.c0
        have zc1 : ∀ p : Later wr, p.now.cell? ⟨w.heap.size, 8, none⟩ = some (.slice (some ⟨b, off, none⟩) m c) := fun _ => Later.cell BX.out.lt BX.out.c8
        have zc2 : ∀ p : Later wr, p.now.cell? ⟨b, off + k, none⟩ = some (.int .i64 x) := fun _ => Later.cell hbl e0
        refine wp_region_later (by kernel_rfl) (by kernel_rfl) ?_
        repeat (first | go_big_quiet_skip | (go_big_quiet_want; go_big_quiet_op; first | go_big_quiet_on | (apply Exists.intro; refine ⟨fun pz => ?_, ?_⟩; (fail); go_big_quiet_on)))
        refine wpQuiet_nil ?_
        intro _ hw'
        obtain ⟨pz, rfl⟩ := hw'
        obtain ⟨w3, hb⟩ := pz
        try dsimp only
        clear zc0 zc1 zc2
        have HBq := Lib.hid (HB.out.trans (hb.mono HB.out.size))
        clear HB
        have HB := HBq
        clear HBq
        have HR1q := Lib.hid (HR1.out.trans (hb.mono HR1.out.size))
        clear HR1
        have HR1 := HR1q
        clear HR1q
        have BXq := Lib.hid (BX.out.next hb)
        clear BX
        have BX := BXq
        clear BXq
        have JAq := Lib.hid (JA.out.next hb)
        clear JA
        have JA := JAq
        clear JAq
        clear hb
        go_wp2
        go_roundw
        case rel => exact ⟨k + 1, by omega, by go_num, HNN.out, HR1.out⟩
        case measure => simp [intOf]; omega
    · have hkm : k = m := by omega
      have HNO : Hid (NeedsOk j) := Lib.hid (fun i hi => HNA.out i (by rw [HM.out] at hi; omega))
      by_cases s1 : j.state < 0
      · have f1 : decide (j.state < 0) = true := decide_eq_true s1
        have HV : Hid (rightJ j = false) := Lib.hid (decide_eq_false fun h => by have := h.2.2.1.1; omega)
        clear s1
        go_wp2
        go_ret
        exact ⟨by rw [HV.out]; rfl, HB.out⟩
      have f1 : decide (j.state < 0) = false := decide_eq_false s1
      by_cases s2 : 6 < j.state
      · have f2 : decide (6 < j.state) = true := decide_eq_true s2
        have HV : Hid (rightJ j = false) := Lib.hid (decide_eq_false fun h => by have := h.2.2.1.1; omega)
        clear s1 s2
        go_wp2
        go_ret
        exact ⟨by rw [HV.out]; rfl, HB.out⟩
      have f2 : decide (6 < j.state) = false := decide_eq_false s2
      cases hf : timeJ j.frm with
      | false =>
        have TF := Lib.hid hf
        have HV : Hid (rightJ j = false) := Lib.hid (decide_eq_false fun h => timeJ_no hf h.2.2.1.2.1)
        clear s1 s2 hf
        go_wp2_with fail
        refine (refTime_b TF.out).mono ?_
        rintro e w4 ⟨rfl, hb⟩
        have HBq := Lib.hid (HB.out.trans (hb.mono HB.out.size))
        clear HB
        have HB := HBq
        clear HBq
        have BXq := Lib.hid (BX.out.next hb)
        clear BX
        have BX := BXq
        clear BXq
        have JAq := Lib.hid (JA.out.next hb)
        clear JA
        have JA := JAq
        clear JAq
        clear hb
        go_wp2
        go_ret
        exact ⟨by rw [HV.out]; rfl, HB.out⟩
      | true =>
      have TF := Lib.hid hf
      cases ht : timeJ j.to with
      | false =>
        have TO := Lib.hid ht
        have HV : Hid (rightJ j = false) := Lib.hid (decide_eq_false fun h => timeJ_no ht h.2.2.1.2.2)
        clear s1 s2 hf ht
        go_wp2_with fail
        refine (refTime_b TF.out).mono ?_
        rintro e w4 ⟨rfl, hb⟩
        have HBq := Lib.hid (HB.out.trans (hb.mono HB.out.size))
        clear HB
        have HB := HBq
        clear HBq
        have BXq := Lib.hid (BX.out.next hb)
        clear BX
        have BX := BXq
        clear BXq
        have JAq := Lib.hid (JA.out.next hb)
        clear JA
        have JA := JAq
        clear JAq
        clear hb
        clear q0 q1 q2 q3 q4 q5 q6 q7 q8 q9 q10 q11 q12
        have q0 := BX.out.c0
        have q1 := BX.out.c1
        have q2 := BX.out.c2
        have q3 := BX.out.c3
        have q4 := BX.out.c4
        have q5 := BX.out.c5
        have q6 := BX.out.c6
        have q7 := BX.out.c7
        have q8 := BX.out.c8
        have q9 := BX.out.c9
        have q10 := BX.out.c10
        have q11 := BX.out.c11
        have q12 := BX.out.c12
        go_wp2_with fail
        refine (refTime_b TO.out).mono ?_
        rintro e w5 ⟨rfl, hb⟩
        have HBq := Lib.hid (HB.out.trans (hb.mono HB.out.size))
        clear HB
        have HB := HBq
        clear HBq
        have BXq := Lib.hid (BX.out.next hb)
        clear BX
        have BX := BXq
        clear BXq
        have JAq := Lib.hid (JA.out.next hb)
        clear JA
        have JA := JAq
        clear JAq
        clear hb
        go_wp2
        go_ret
        exact ⟨by rw [HV.out]; rfl, HB.out⟩
      | true =>
      have TO := Lib.hid ht
      have hss : j.state = 0 ∨ j.state = 1 ∨ j.state = 2 ∨ j.state = 3 ∨ j.state = 4 ∨ j.state = 5 ∨ j.state = 6 := by omega
      clear s1 s2 hf ht
      go_wp2_with fail
      refine (refTime_b TF.out).mono ?_
      rintro e w4 ⟨rfl, hb⟩
      have HBq := Lib.hid (HB.out.trans (hb.mono HB.out.size))
      clear HB
      have HB := HBq
      clear HBq
      have BXq := Lib.hid (BX.out.next hb)
      clear BX
      have BX := BXq
      clear BXq
      have JAq := Lib.hid (JA.out.next hb)
      clear JA
      have JA := JAq
      clear JAq
      clear hb
      clear q0 q1 q2 q3 q4 q5 q6 q7 q8 q9 q10 q11 q12
      have q0 := BX.out.c0
      have q1 := BX.out.c1
      have q2 := BX.out.c2
      have q3 := BX.out.c3
      have q4 := BX.out.c4
      have q5 := BX.out.c5
      have q6 := BX.out.c6
      have q7 := BX.out.c7
      have q8 := BX.out.c8
      have q9 := BX.out.c9
      have q10 := BX.out.c10
      have q11 := BX.out.c11
      have q12 := BX.out.c12
      go_wp2_with fail
      refine (refTime_b TO.out).mono ?_
      rintro e w5 ⟨rfl, hb⟩
      have HBq := Lib.hid (HB.out.trans (hb.mono HB.out.size))
      clear HB
      have HB := HBq
      clear HBq
      have BXq := Lib.hid (BX.out.next hb)
      clear BX
      have BX := BXq
      clear BXq
      have JAq := Lib.hid (JA.out.next hb)
      clear JA
      have JA := JAq
      clear JAq
      clear hb
      clear q0 q1 q2 q3 q4 q5 q6 q7 q8 q9 q10 q11 q12
      have q0 := BX.out.c0
      have q1 := BX.out.c1
      have q2 := BX.out.c2
      have q3 := BX.out.c3
      have q4 := BX.out.c4
      have q5 := BX.out.c5
      have q6 := BX.out.c6
      have q7 := BX.out.c7
      have q8 := BX.out.c8
      have q9 := BX.out.c9
      have q10 := BX.out.c10
      have q11 := BX.out.c11
      have q12 := BX.out.c12
      clear BX JA HR1 HNA
      rcases hss with es | es | es | es | es | es | es
      · have z0 : (j.state == 0) = true := by rw [es]; rfl
        have z1 : (j.state == 1) = false := by rw [es]; rfl
        have z5 : (j.state == 5) = false := by rw [es]; rfl
        have z6 : (j.state == 6) = false := by rw [es]; rfl
        have z3 : decide (j.state < 3) = true := by rw [es]; rfl
        by_cases c1 : j.frm = 0
        · have w1' : (j.frm != 0) = false := by simpa using c1
          by_cases t1 : j.to = 0
          · have y1 : (j.to == 0) = true := by simpa using t1
            have HV : Hid (rightJ j = true) := Lib.hid (decide_eq_true ⟨HH.out, HNO.out, ⟨⟨by omega, by omega⟩, timeJ_yes TF.out, timeJ_yes TO.out⟩, by unfold FromOk; split <;> omega, by unfold ToOk; split <;> omega⟩)
            clear t1 c1 es
            go_wp2
            go_ret
            exact ⟨by rw [HV.out]; rfl, HB.out⟩
          · have y1 : (j.to == 0) = false := by simpa using t1
            have HV : Hid (rightJ j = false) := Lib.hid (decide_eq_false fun h => by have h1 := h.2.2.2.1; have h2 := h.2.2.2.2; unfold FromOk at h1; unfold ToOk at h2; split at h1 <;> split at h2 <;> omega)
            clear t1 c1 es
            go_wp2
            go_ret
            exact ⟨by rw [HV.out]; rfl, HB.out⟩
        · have w1' : (j.frm != 0) = true := by simpa using c1
          have HV : Hid (rightJ j = false) := Lib.hid (decide_eq_false fun h => by have h1 := h.2.2.2.1; have h2 := h.2.2.2.2; unfold FromOk at h1; unfold ToOk at h2; split at h1 <;> split at h2 <;> omega)
          clear c1 es
          go_wp2
          go_ret
          exact ⟨by rw [HV.out]; rfl, HB.out⟩
      · have z0 : (j.state == 0) = false := by rw [es]; rfl
        have z1 : (j.state == 1) = true := by rw [es]; rfl
        have z5 : (j.state == 5) = false := by rw [es]; rfl
        have z6 : (j.state == 6) = false := by rw [es]; rfl
        have z3 : decide (j.state < 3) = true := by rw [es]; rfl
        by_cases c1 : j.frm = 0
        · have w1' : (j.frm != 0) = false := by simpa using c1
          by_cases t1 : j.to = 0
          · have y1 : (j.to == 0) = true := by simpa using t1
            have HV : Hid (rightJ j = true) := Lib.hid (decide_eq_true ⟨HH.out, HNO.out, ⟨⟨by omega, by omega⟩, timeJ_yes TF.out, timeJ_yes TO.out⟩, by unfold FromOk; split <;> omega, by unfold ToOk; split <;> omega⟩)
            clear t1 c1 es
            go_wp2
            go_ret
            exact ⟨by rw [HV.out]; rfl, HB.out⟩
          · have y1 : (j.to == 0) = false := by simpa using t1
            have HV : Hid (rightJ j = false) := Lib.hid (decide_eq_false fun h => by have h1 := h.2.2.2.1; have h2 := h.2.2.2.2; unfold FromOk at h1; unfold ToOk at h2; split at h1 <;> split at h2 <;> omega)
            clear t1 c1 es
            go_wp2
            go_ret
            exact ⟨by rw [HV.out]; rfl, HB.out⟩
        · have w1' : (j.frm != 0) = true := by simpa using c1
          have HV : Hid (rightJ j = false) := Lib.hid (decide_eq_false fun h => by have h1 := h.2.2.2.1; have h2 := h.2.2.2.2; unfold FromOk at h1; unfold ToOk at h2; split at h1 <;> split at h2 <;> omega)
          clear c1 es
          go_wp2
          go_ret
          exact ⟨by rw [HV.out]; rfl, HB.out⟩
      · have z0 : (j.state == 0) = false := by rw [es]; rfl
        have z1 : (j.state == 1) = false := by rw [es]; rfl
        have z5 : (j.state == 5) = false := by rw [es]; rfl
        have z6 : (j.state == 6) = false := by rw [es]; rfl
        have z3 : decide (j.state < 3) = true := by rw [es]; rfl
        by_cases c1 : j.frm < j.came
        · have w1' : decide (j.frm < j.came) = true := decide_eq_true c1
          have HV : Hid (rightJ j = false) := Lib.hid (decide_eq_false fun h => by have h1 := h.2.2.2.1; have h2 := h.2.2.2.2; unfold FromOk at h1; unfold ToOk at h2; split at h1 <;> split at h2 <;> omega)
          clear c1 es
          go_wp2
          go_ret
          exact ⟨by rw [HV.out]; rfl, HB.out⟩
        · have w1' : decide (j.frm < j.came) = false := decide_eq_false c1
          by_cases t1 : j.to = 0
          · have y1 : (j.to == 0) = true := by simpa using t1
            have HV : Hid (rightJ j = true) := Lib.hid (decide_eq_true ⟨HH.out, HNO.out, ⟨⟨by omega, by omega⟩, timeJ_yes TF.out, timeJ_yes TO.out⟩, by unfold FromOk; split <;> omega, by unfold ToOk; split <;> omega⟩)
            clear t1 c1 es
            go_wp2
            go_ret
            exact ⟨by rw [HV.out]; rfl, HB.out⟩
          · have y1 : (j.to == 0) = false := by simpa using t1
            have HV : Hid (rightJ j = false) := Lib.hid (decide_eq_false fun h => by have h1 := h.2.2.2.1; have h2 := h.2.2.2.2; unfold FromOk at h1; unfold ToOk at h2; split at h1 <;> split at h2 <;> omega)
            clear t1 c1 es
            go_wp2
            go_ret
            exact ⟨by rw [HV.out]; rfl, HB.out⟩
      · have z0 : (j.state == 0) = false := by rw [es]; rfl
        have z1 : (j.state == 1) = false := by rw [es]; rfl
        have z5 : (j.state == 5) = false := by rw [es]; rfl
        have z6 : (j.state == 6) = false := by rw [es]; rfl
        have z3 : decide (j.state < 3) = false := by rw [es]; rfl
        by_cases c1 : j.frm < j.came
        · have w1' : decide (j.frm < j.came) = true := decide_eq_true c1
          have HV : Hid (rightJ j = false) := Lib.hid (decide_eq_false fun h => by have h1 := h.2.2.2.1; have h2 := h.2.2.2.2; unfold FromOk at h1; unfold ToOk at h2; split at h1 <;> split at h2 <;> omega)
          clear c1 es
          go_wp2
          go_ret
          exact ⟨by rw [HV.out]; rfl, HB.out⟩
        · have w1' : decide (j.frm < j.came) = false := decide_eq_false c1
          by_cases t1 : j.came ≤ j.to
          · have y1 : decide (j.came ≤ j.to) = true := decide_eq_true t1
            by_cases t2 : j.frm ≤ j.to
            · have y2 : decide (j.frm ≤ j.to) = true := decide_eq_true t2
              have HV : Hid (rightJ j = true) := Lib.hid (decide_eq_true ⟨HH.out, HNO.out, ⟨⟨by omega, by omega⟩, timeJ_yes TF.out, timeJ_yes TO.out⟩, by unfold FromOk; split <;> omega, by unfold ToOk; split <;> omega⟩)
              clear t1 t2 c1 es
              go_wp2
              go_ret
              exact ⟨by rw [HV.out]; rfl, HB.out⟩
            · have y2 : decide (j.frm ≤ j.to) = false := decide_eq_false t2
              have HV : Hid (rightJ j = false) := Lib.hid (decide_eq_false fun h => by have h1 := h.2.2.2.1; have h2 := h.2.2.2.2; unfold FromOk at h1; unfold ToOk at h2; split at h1 <;> split at h2 <;> omega)
              clear t1 t2 c1 es
              go_wp2
              go_ret
              exact ⟨by rw [HV.out]; rfl, HB.out⟩
          · have y1 : decide (j.came ≤ j.to) = false := decide_eq_false t1
            have HV : Hid (rightJ j = false) := Lib.hid (decide_eq_false fun h => by have h1 := h.2.2.2.1; have h2 := h.2.2.2.2; unfold FromOk at h1; unfold ToOk at h2; split at h1 <;> split at h2 <;> omega)
            clear t1 c1 es
            go_wp2
            go_ret
            exact ⟨by rw [HV.out]; rfl, HB.out⟩
      · have z0 : (j.state == 0) = false := by rw [es]; rfl
        have z1 : (j.state == 1) = false := by rw [es]; rfl
        have z5 : (j.state == 5) = false := by rw [es]; rfl
        have z6 : (j.state == 6) = false := by rw [es]; rfl
        have z3 : decide (j.state < 3) = false := by rw [es]; rfl
        by_cases c1 : j.frm < j.came
        · have w1' : decide (j.frm < j.came) = true := decide_eq_true c1
          have HV : Hid (rightJ j = false) := Lib.hid (decide_eq_false fun h => by have h1 := h.2.2.2.1; have h2 := h.2.2.2.2; unfold FromOk at h1; unfold ToOk at h2; split at h1 <;> split at h2 <;> omega)
          clear c1 es
          go_wp2
          go_ret
          exact ⟨by rw [HV.out]; rfl, HB.out⟩
        · have w1' : decide (j.frm < j.came) = false := decide_eq_false c1
          by_cases t1 : j.came ≤ j.to
          · have y1 : decide (j.came ≤ j.to) = true := decide_eq_true t1
            by_cases t2 : j.frm ≤ j.to
            · have y2 : decide (j.frm ≤ j.to) = true := decide_eq_true t2
              have HV : Hid (rightJ j = true) := Lib.hid (decide_eq_true ⟨HH.out, HNO.out, ⟨⟨by omega, by omega⟩, timeJ_yes TF.out, timeJ_yes TO.out⟩, by unfold FromOk; split <;> omega, by unfold ToOk; split <;> omega⟩)
              clear t1 t2 c1 es
              go_wp2
              go_ret
              exact ⟨by rw [HV.out]; rfl, HB.out⟩
            · have y2 : decide (j.frm ≤ j.to) = false := decide_eq_false t2
              have HV : Hid (rightJ j = false) := Lib.hid (decide_eq_false fun h => by have h1 := h.2.2.2.1; have h2 := h.2.2.2.2; unfold FromOk at h1; unfold ToOk at h2; split at h1 <;> split at h2 <;> omega)
              clear t1 t2 c1 es
              go_wp2
              go_ret
              exact ⟨by rw [HV.out]; rfl, HB.out⟩
          · have y1 : decide (j.came ≤ j.to) = false := decide_eq_false t1
            have HV : Hid (rightJ j = false) := Lib.hid (decide_eq_false fun h => by have h1 := h.2.2.2.1; have h2 := h.2.2.2.2; unfold FromOk at h1; unfold ToOk at h2; split at h1 <;> split at h2 <;> omega)
            clear t1 c1 es
            go_wp2
            go_ret
            exact ⟨by rw [HV.out]; rfl, HB.out⟩
      · have z0 : (j.state == 0) = false := by rw [es]; rfl
        have z1 : (j.state == 1) = false := by rw [es]; rfl
        have z5 : (j.state == 5) = true := by rw [es]; rfl
        have z6 : (j.state == 6) = false := by rw [es]; rfl
        have z3 : decide (j.state < 3) = false := by rw [es]; rfl
        by_cases c1 : j.frm < j.came
        · have w1' : decide (j.frm < j.came) = true := decide_eq_true c1
          by_cases c2 : j.frm = 0
          · have w2' : (j.frm == 0) = true := by simpa using c2
            by_cases t1 : j.came ≤ j.to
            · have y1 : decide (j.came ≤ j.to) = true := decide_eq_true t1
              by_cases t2 : j.frm ≤ j.to
              · have y2 : decide (j.frm ≤ j.to) = true := decide_eq_true t2
                have HV : Hid (rightJ j = true) := Lib.hid (decide_eq_true ⟨HH.out, HNO.out, ⟨⟨by omega, by omega⟩, timeJ_yes TF.out, timeJ_yes TO.out⟩, by unfold FromOk; split <;> omega, by unfold ToOk; split <;> omega⟩)
                clear t1 t2 c1 c2 es
                go_wp2
                go_ret
                exact ⟨by rw [HV.out]; rfl, HB.out⟩
              · have y2 : decide (j.frm ≤ j.to) = false := decide_eq_false t2
                have HV : Hid (rightJ j = false) := Lib.hid (decide_eq_false fun h => by have h1 := h.2.2.2.1; have h2 := h.2.2.2.2; unfold FromOk at h1; unfold ToOk at h2; split at h1 <;> split at h2 <;> omega)
                clear t1 t2 c1 c2 es
                go_wp2
                go_ret
                exact ⟨by rw [HV.out]; rfl, HB.out⟩
            · have y1 : decide (j.came ≤ j.to) = false := decide_eq_false t1
              have HV : Hid (rightJ j = false) := Lib.hid (decide_eq_false fun h => by have h1 := h.2.2.2.1; have h2 := h.2.2.2.2; unfold FromOk at h1; unfold ToOk at h2; split at h1 <;> split at h2 <;> omega)
              clear t1 c1 c2 es
              go_wp2
              go_ret
              exact ⟨by rw [HV.out]; rfl, HB.out⟩
          · have w2' : (j.frm == 0) = false := by simpa using c2
            have HV : Hid (rightJ j = false) := Lib.hid (decide_eq_false fun h => by have h1 := h.2.2.2.1; have h2 := h.2.2.2.2; unfold FromOk at h1; unfold ToOk at h2; split at h1 <;> split at h2 <;> omega)
            clear c1 c2 es
            go_wp2
            go_ret
            exact ⟨by rw [HV.out]; rfl, HB.out⟩
        · have w1' : decide (j.frm < j.came) = false := decide_eq_false c1
          by_cases t1 : j.came ≤ j.to
          · have y1 : decide (j.came ≤ j.to) = true := decide_eq_true t1
            by_cases t2 : j.frm ≤ j.to
            · have y2 : decide (j.frm ≤ j.to) = true := decide_eq_true t2
              have HV : Hid (rightJ j = true) := Lib.hid (decide_eq_true ⟨HH.out, HNO.out, ⟨⟨by omega, by omega⟩, timeJ_yes TF.out, timeJ_yes TO.out⟩, by unfold FromOk; split <;> omega, by unfold ToOk; split <;> omega⟩)
              clear t1 t2 c1 es
              go_wp2
              go_ret
              exact ⟨by rw [HV.out]; rfl, HB.out⟩
            · have y2 : decide (j.frm ≤ j.to) = false := decide_eq_false t2
              have HV : Hid (rightJ j = false) := Lib.hid (decide_eq_false fun h => by have h1 := h.2.2.2.1; have h2 := h.2.2.2.2; unfold FromOk at h1; unfold ToOk at h2; split at h1 <;> split at h2 <;> omega)
              clear t1 t2 c1 es
              go_wp2
              go_ret
              exact ⟨by rw [HV.out]; rfl, HB.out⟩
          · have y1 : decide (j.came ≤ j.to) = false := decide_eq_false t1
            have HV : Hid (rightJ j = false) := Lib.hid (decide_eq_false fun h => by have h1 := h.2.2.2.1; have h2 := h.2.2.2.2; unfold FromOk at h1; unfold ToOk at h2; split at h1 <;> split at h2 <;> omega)
            clear t1 c1 es
            go_wp2
            go_ret
            exact ⟨by rw [HV.out]; rfl, HB.out⟩
      · have z0 : (j.state == 0) = false := by rw [es]; rfl
        have z1 : (j.state == 1) = false := by rw [es]; rfl
        have z5 : (j.state == 5) = false := by rw [es]; rfl
        have z6 : (j.state == 6) = true := by rw [es]; rfl
        have z3 : decide (j.state < 3) = false := by rw [es]; rfl
        by_cases c1 : j.frm = 0
        · have w1' : (j.frm != 0) = false := by simpa using c1
          by_cases t1 : j.came ≤ j.to
          · have y1 : decide (j.came ≤ j.to) = true := decide_eq_true t1
            by_cases t2 : j.frm ≤ j.to
            · have y2 : decide (j.frm ≤ j.to) = true := decide_eq_true t2
              have HV : Hid (rightJ j = true) := Lib.hid (decide_eq_true ⟨HH.out, HNO.out, ⟨⟨by omega, by omega⟩, timeJ_yes TF.out, timeJ_yes TO.out⟩, by unfold FromOk; split <;> omega, by unfold ToOk; split <;> omega⟩)
              clear t1 t2 c1 es
              go_wp2
              go_ret
              exact ⟨by rw [HV.out]; rfl, HB.out⟩
            · have y2 : decide (j.frm ≤ j.to) = false := decide_eq_false t2
              have HV : Hid (rightJ j = false) := Lib.hid (decide_eq_false fun h => by have h1 := h.2.2.2.1; have h2 := h.2.2.2.2; unfold FromOk at h1; unfold ToOk at h2; split at h1 <;> split at h2 <;> omega)
              clear t1 t2 c1 es
              go_wp2
              go_ret
              exact ⟨by rw [HV.out]; rfl, HB.out⟩
          · have y1 : decide (j.came ≤ j.to) = false := decide_eq_false t1
            have HV : Hid (rightJ j = false) := Lib.hid (decide_eq_false fun h => by have h1 := h.2.2.2.1; have h2 := h.2.2.2.2; unfold FromOk at h1; unfold ToOk at h2; split at h1 <;> split at h2 <;> omega)
            clear t1 c1 es
            go_wp2
            go_ret
            exact ⟨by rw [HV.out]; rfl, HB.out⟩
        · have w1' : (j.frm != 0) = true := by simpa using c1
          have HV : Hid (rightJ j = false) := Lib.hid (decide_eq_false fun h => by have h1 := h.2.2.2.1; have h2 := h.2.2.2.2; unfold FromOk at h1; unfold ToOk at h2; split at h1 <;> split at h2 <;> omega)
          clear c1 es
          go_wp2
          go_ret
          exact ⟨by rw [HV.out]; rfl, HB.out⟩


theorem refRightJ_any (A : Option Addr) (m c : Nat) (j : Jb) (w : World) (hj : JAsk w A m c j) : Calls Try.prog 23 #[.agg #[.int .i64 j.id, .int .i64 j.spec.nodes, .int .i64 j.spec.cores, .int .i64 j.spec.gpus, .string j.spec.tag, .bool j.spec.whole, .int .i64 j.spec.long, .int .i64 j.spec.prio, .slice A m c, .int .i64 j.state, .int .i64 j.came, .int .i64 j.frm, .int .i64 j.to]] w fun e w' => e = .returned (.bool (rightJ j)) ∧ Below w.heap.size w w' := by
  by_cases i1 : j.id < 1
  · exact refRight_h1 A m c j w hj i1
  by_cases i2 : 1073741824 < j.id
  · exact refRight_h2 A m c j w hj i1 i2
  cases i3 : rightS j.spec with
  | false => exact refRight_h3 A m c j w hj i1 i2 i3
  | true =>
  by_cases i4 : 16 < m
  · exact refRight_h4 A m c j w hj i1 i2 i3 i4
  cases i5 : timeJ j.came with
  | false => exact refRight_h5 A m c j w hj i1 i2 i3 i4 i5
  | true => exact refRight_main A m c j w hj i1 i2 ⟨⟨by omega, by omega⟩, i3, by rw [hj.reads.1]; omega, timeJ_yes i5⟩
theorem refRightJ_b {A : Option Addr} {m c : Nat} {j : Jb} {w : World} {v : Bool} (hj : JAsk w A m c j) (h : rightJ j = v) :
    Calls Try.prog 23 #[.agg #[.int .i64 j.id, .int .i64 j.spec.nodes, .int .i64 j.spec.cores, .int .i64 j.spec.gpus, .string j.spec.tag, .bool j.spec.whole, .int .i64 j.spec.long, .int .i64 j.spec.prio, .slice A m c, .int .i64 j.state, .int .i64 j.came, .int .i64 j.frm, .int .i64 j.to]] w fun e w' => e = .returned (.bool v) ∧ Below w.heap.size w w' := by
  subst h; exact refRightJ_any A m c j w hj

end Go.Proofs.Ytimgdlddfnglaaa
