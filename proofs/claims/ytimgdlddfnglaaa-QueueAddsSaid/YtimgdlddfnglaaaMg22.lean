/- The program's Right of layer 11 (job). Written by gen/gen_jobp.py. -/
import Derived.Test.YtimgdlddfnglaaaMg19
import Derived.Test.YtimgdlddfnglaaaMg21
namespace Go.Proofs.Ytimgdlddfnglaaa
open Go.RowKit

set_option maxRecDepth 100000 in
set_option maxHeartbeats 8000000 in
theorem right_0 (A : Option Addr) (m c : Nat) (j : Jb) (w : World) (hj : JAsk w A m c j) (i1 : ¬ 1 ≤ j.id) : Calls Try.prog 32 #[.agg #[.int .i64 j.id, .int .i64 j.spec.nodes, .int .i64 j.spec.cores, .int .i64 j.spec.gpus, .string j.spec.tag, .bool j.spec.whole, .int .i64 j.spec.long, .int .i64 j.spec.prio, .slice A m c, .int .i64 j.state, .int .i64 j.came, .int .i64 j.frm, .int .i64 j.to]] w fun e w' => e = .returned (.bool (rightJ j)) ∧ Below w.heap.size w w' := by
  obtain ⟨W, hW⟩ : ∃ W, W = w.alloc (jO j A m c) := ⟨_, rfl⟩
  have BX : Hid (BoxJ W w.heap.size j A m c) := Lib.hid (by rw [hW]; exact boxJ_new w j A m c)
  have HB : Hid (Below w.heap.size w W) := Lib.hid (by rw [hW]; exact (Below.refl _ _).alloc (Nat.le_refl _) _)
  have JA := Lib.hid (hj.next HB.out)
  have d1 : decide (1 ≤ j.id) = false := decide_eq_false i1
  have e1 : Hid (rightJ j = false) := Lib.hid (by rw [right_parts, d1]; rfl)
  clear i1 hj
  unfold jO at hW
  have q0 := BX.out.c0
  have q1 := BX.out.c1
  have q2 := BX.out.c2
  have q3 := BX.out.c3
  have q4 := BX.out.c4
  have q5 := BX.out.c5
  have q6 := BX.out.c6
  have q7 := BX.out.c7
  have q8 := BX.out.c8
  have q9 := BX.out.c9
  have q10 := BX.out.c10
  have q11 := BX.out.c11
  have q12 := BX.out.c12
  rw [hW] at q0 q1 q2 q3 q4 q5 q6 q7 q8 q9 q10 q11 q12 HB
  clear BX JA hW W
  go_enter Try.func32, Try.ntmps32
  go_wp2
  go_ret
  exact ⟨ret_bl e1.out, HB.out⟩
set_option maxRecDepth 100000 in
set_option maxHeartbeats 8000000 in
theorem right_1 (A : Option Addr) (m c : Nat) (j : Jb) (w : World) (hj : JAsk w A m c j) (i1 : 1 ≤ j.id) (i2 : ¬ j.id ≤ 1073741824) : Calls Try.prog 32 #[.agg #[.int .i64 j.id, .int .i64 j.spec.nodes, .int .i64 j.spec.cores, .int .i64 j.spec.gpus, .string j.spec.tag, .bool j.spec.whole, .int .i64 j.spec.long, .int .i64 j.spec.prio, .slice A m c, .int .i64 j.state, .int .i64 j.came, .int .i64 j.frm, .int .i64 j.to]] w fun e w' => e = .returned (.bool (rightJ j)) ∧ Below w.heap.size w w' := by
  obtain ⟨W, hW⟩ : ∃ W, W = w.alloc (jO j A m c) := ⟨_, rfl⟩
  have BX : Hid (BoxJ W w.heap.size j A m c) := Lib.hid (by rw [hW]; exact boxJ_new w j A m c)
  have HB : Hid (Below w.heap.size w W) := Lib.hid (by rw [hW]; exact (Below.refl _ _).alloc (Nat.le_refl _) _)
  have JA := Lib.hid (hj.next HB.out)
  have d1 : decide (1 ≤ j.id) = true := decide_eq_true i1
  have d2 : decide (j.id ≤ 1073741824) = false := decide_eq_false i2
  have e1 : Hid (rightJ j = false) := Lib.hid (by rw [right_parts, d1, d2]; rfl)
  clear i1 i2 hj
  unfold jO at hW
  have q0 := BX.out.c0
  have q1 := BX.out.c1
  have q2 := BX.out.c2
  have q3 := BX.out.c3
  have q4 := BX.out.c4
  have q5 := BX.out.c5
  have q6 := BX.out.c6
  have q7 := BX.out.c7
  have q8 := BX.out.c8
  have q9 := BX.out.c9
  have q10 := BX.out.c10
  have q11 := BX.out.c11
  have q12 := BX.out.c12
  rw [hW] at q0 q1 q2 q3 q4 q5 q6 q7 q8 q9 q10 q11 q12 HB
  clear BX JA hW W
  go_enter Try.func32, Try.ntmps32
  go_wp2
  go_ret
  exact ⟨ret_bl e1.out, HB.out⟩
set_option maxRecDepth 100000 in
set_option maxHeartbeats 8000000 in
theorem right_2 (A : Option Addr) (m c : Nat) (j : Jb) (w : World) (hj : JAsk w A m c j) (i1 : 1 ≤ j.id) (i2 : j.id ≤ 1073741824) (i3 : rightS j.spec = false) : Calls Try.prog 32 #[.agg #[.int .i64 j.id, .int .i64 j.spec.nodes, .int .i64 j.spec.cores, .int .i64 j.spec.gpus, .string j.spec.tag, .bool j.spec.whole, .int .i64 j.spec.long, .int .i64 j.spec.prio, .slice A m c, .int .i64 j.state, .int .i64 j.came, .int .i64 j.frm, .int .i64 j.to]] w fun e w' => e = .returned (.bool (rightJ j)) ∧ Below w.heap.size w w' := by
  obtain ⟨W, hW⟩ : ∃ W, W = w.alloc (jO j A m c) := ⟨_, rfl⟩
  have BX : Hid (BoxJ W w.heap.size j A m c) := Lib.hid (by rw [hW]; exact boxJ_new w j A m c)
  have HB : Hid (Below w.heap.size w W) := Lib.hid (by rw [hW]; exact (Below.refl _ _).alloc (Nat.le_refl _) _)
  have JA := Lib.hid (hj.next HB.out)
  have d1 : decide (1 ≤ j.id) = true := decide_eq_true i1
  have d2 : decide (j.id ≤ 1073741824) = true := decide_eq_true i2
  have R3 := Lib.hid i3
  have e1 : Hid (rightJ j = false) := Lib.hid (by rw [right_parts, d1, d2, i3]; rfl)
  clear i1 i2 i3 hj
  unfold jO at hW
  have q0 := BX.out.c0
  have q1 := BX.out.c1
  have q2 := BX.out.c2
  have q3 := BX.out.c3
  have q4 := BX.out.c4
  have q5 := BX.out.c5
  have q6 := BX.out.c6
  have q7 := BX.out.c7
  have q8 := BX.out.c8
  have q9 := BX.out.c9
  have q10 := BX.out.c10
  have q11 := BX.out.c11
  have q12 := BX.out.c12
  go_enter Try.func32, Try.ntmps32
  go_wp2_with fail
  rw [← hW]
  refine (specRight_b JA.out.spec R3.out).mono ?_
  rintro e w1 ⟨rfl, hb⟩
  have HBq := Lib.hid (HB.out.trans (hb.mono HB.out.size))
  clear HB
  have HB := HBq
  clear HBq
  have BXq := Lib.hid (BX.out.next hb)
  clear BX
  have BX := BXq
  clear BXq
  have JAq := Lib.hid (JA.out.next hb)
  clear JA
  have JA := JAq
  clear JAq
  clear hb
  clear hW
  clear q0 q1 q2 q3 q4 q5 q6 q7 q8 q9 q10 q11 q12
  have q0 := BX.out.c0
  have q1 := BX.out.c1
  have q2 := BX.out.c2
  have q3 := BX.out.c3
  have q4 := BX.out.c4
  have q5 := BX.out.c5
  have q6 := BX.out.c6
  have q7 := BX.out.c7
  have q8 := BX.out.c8
  have q9 := BX.out.c9
  have q10 := BX.out.c10
  have q11 := BX.out.c11
  have q12 := BX.out.c12
  go_wp2
  go_ret
  exact ⟨ret_bl e1.out, HB.out⟩
set_option maxRecDepth 100000 in
set_option maxHeartbeats 8000000 in
theorem right_3 (A : Option Addr) (m c : Nat) (j : Jb) (w : World) (hj : JAsk w A m c j) (i1 : 1 ≤ j.id) (i2 : j.id ≤ 1073741824) (i3 : rightS j.spec = true) (i4 : needsB j.id j.needs = false) : Calls Try.prog 32 #[.agg #[.int .i64 j.id, .int .i64 j.spec.nodes, .int .i64 j.spec.cores, .int .i64 j.spec.gpus, .string j.spec.tag, .bool j.spec.whole, .int .i64 j.spec.long, .int .i64 j.spec.prio, .slice A m c, .int .i64 j.state, .int .i64 j.came, .int .i64 j.frm, .int .i64 j.to]] w fun e w' => e = .returned (.bool (rightJ j)) ∧ Below w.heap.size w w' := by
  obtain ⟨W, hW⟩ : ∃ W, W = w.alloc (jO j A m c) := ⟨_, rfl⟩
  have BX : Hid (BoxJ W w.heap.size j A m c) := Lib.hid (by rw [hW]; exact boxJ_new w j A m c)
  have HB : Hid (Below w.heap.size w W) := Lib.hid (by rw [hW]; exact (Below.refl _ _).alloc (Nat.le_refl _) _)
  have JA := Lib.hid (hj.next HB.out)
  have d1 : decide (1 ≤ j.id) = true := decide_eq_true i1
  have d2 : decide (j.id ≤ 1073741824) = true := decide_eq_true i2
  have R3 := Lib.hid i3
  have R4 := Lib.hid i4
  have e1 : Hid (rightJ j = false) := Lib.hid (by rw [right_parts, d1, d2, i3, i4]; rfl)
  clear i1 i2 i3 i4 hj
  unfold jO at hW
  have q0 := BX.out.c0
  have q1 := BX.out.c1
  have q2 := BX.out.c2
  have q3 := BX.out.c3
  have q4 := BX.out.c4
  have q5 := BX.out.c5
  have q6 := BX.out.c6
  have q7 := BX.out.c7
  have q8 := BX.out.c8
  have q9 := BX.out.c9
  have q10 := BX.out.c10
  have q11 := BX.out.c11
  have q12 := BX.out.c12
  go_enter Try.func32, Try.ntmps32
  go_wp2_with fail
  rw [← hW]
  refine (specRight_b JA.out.spec R3.out).mono ?_
  rintro e w1 ⟨rfl, hb⟩
  have HBq := Lib.hid (HB.out.trans (hb.mono HB.out.size))
  clear HB
  have HB := HBq
  clear HBq
  have BXq := Lib.hid (BX.out.next hb)
  clear BX
  have BX := BXq
  clear BXq
  have JAq := Lib.hid (JA.out.next hb)
  clear JA
  have JA := JAq
  clear JAq
  clear hb
  clear hW
  clear q0 q1 q2 q3 q4 q5 q6 q7 q8 q9 q10 q11 q12
  have q0 := BX.out.c0
  have q1 := BX.out.c1
  have q2 := BX.out.c2
  have q3 := BX.out.c3
  have q4 := BX.out.c4
  have q5 := BX.out.c5
  have q6 := BX.out.c6
  have q7 := BX.out.c7
  have q8 := BX.out.c8
  have q9 := BX.out.c9
  have q10 := BX.out.c10
  have q11 := BX.out.c11
  have q12 := BX.out.c12
  go_wp2_with fail
  refine (needs_b JA.out.reads JA.out.few R4.out).mono ?_
  rintro e wz ⟨rfl, rfl⟩
  go_wp2
  go_ret
  exact ⟨ret_bl e1.out, HB.out⟩
set_option maxRecDepth 100000 in
set_option maxHeartbeats 8000000 in
theorem right_4 (A : Option Addr) (m c : Nat) (j : Jb) (w : World) (hj : JAsk w A m c j) (i1 : 1 ≤ j.id) (i2 : j.id ≤ 1073741824) (i3 : rightS j.spec = true) (i4 : needsB j.id j.needs = true) (i5 : timeB j.came = false) : Calls Try.prog 32 #[.agg #[.int .i64 j.id, .int .i64 j.spec.nodes, .int .i64 j.spec.cores, .int .i64 j.spec.gpus, .string j.spec.tag, .bool j.spec.whole, .int .i64 j.spec.long, .int .i64 j.spec.prio, .slice A m c, .int .i64 j.state, .int .i64 j.came, .int .i64 j.frm, .int .i64 j.to]] w fun e w' => e = .returned (.bool (rightJ j)) ∧ Below w.heap.size w w' := by
  obtain ⟨W, hW⟩ : ∃ W, W = w.alloc (jO j A m c) := ⟨_, rfl⟩
  have BX : Hid (BoxJ W w.heap.size j A m c) := Lib.hid (by rw [hW]; exact boxJ_new w j A m c)
  have HB : Hid (Below w.heap.size w W) := Lib.hid (by rw [hW]; exact (Below.refl _ _).alloc (Nat.le_refl _) _)
  have JA := Lib.hid (hj.next HB.out)
  have d1 : decide (1 ≤ j.id) = true := decide_eq_true i1
  have d2 : decide (j.id ≤ 1073741824) = true := decide_eq_true i2
  have R3 := Lib.hid i3
  have R4 := Lib.hid i4
  have R5 := Lib.hid i5
  have e1 : Hid (rightJ j = false) := Lib.hid (by rw [right_parts, d1, d2, i3, i4, i5]; rfl)
  clear i1 i2 i3 i4 i5 hj
  unfold jO at hW
  have q0 := BX.out.c0
  have q1 := BX.out.c1
  have q2 := BX.out.c2
  have q3 := BX.out.c3
  have q4 := BX.out.c4
  have q5 := BX.out.c5
  have q6 := BX.out.c6
  have q7 := BX.out.c7
  have q8 := BX.out.c8
  have q9 := BX.out.c9
  have q10 := BX.out.c10
  have q11 := BX.out.c11
  have q12 := BX.out.c12
  go_enter Try.func32, Try.ntmps32
  go_wp2_with fail
  rw [← hW]
  refine (specRight_b JA.out.spec R3.out).mono ?_
  rintro e w1 ⟨rfl, hb⟩
  have HBq := Lib.hid (HB.out.trans (hb.mono HB.out.size))
  clear HB
  have HB := HBq
  clear HBq
  have BXq := Lib.hid (BX.out.next hb)
  clear BX
  have BX := BXq
  clear BXq
  have JAq := Lib.hid (JA.out.next hb)
  clear JA
  have JA := JAq
  clear JAq
  clear hb
  clear hW
  clear q0 q1 q2 q3 q4 q5 q6 q7 q8 q9 q10 q11 q12
  have q0 := BX.out.c0
  have q1 := BX.out.c1
  have q2 := BX.out.c2
  have q3 := BX.out.c3
  have q4 := BX.out.c4
  have q5 := BX.out.c5
  have q6 := BX.out.c6
  have q7 := BX.out.c7
  have q8 := BX.out.c8
  have q9 := BX.out.c9
  have q10 := BX.out.c10
  have q11 := BX.out.c11
  have q12 := BX.out.c12
  go_wp2_with fail
  refine (needs_b JA.out.reads JA.out.few R4.out).mono ?_
  rintro e wz ⟨rfl, rfl⟩
  go_wp2_with fail
  refine (whenRight_b j.came _ _ R5.out).mono ?_
  rintro e wz ⟨rfl, rfl⟩
  go_wp2
  go_ret
  exact ⟨ret_bl e1.out, HB.out⟩
set_option maxRecDepth 100000 in
set_option maxHeartbeats 8000000 in
theorem right_5 (A : Option Addr) (m c : Nat) (j : Jb) (w : World) (hj : JAsk w A m c j) (i1 : 1 ≤ j.id) (i2 : j.id ≤ 1073741824) (i3 : rightS j.spec = true) (i4 : needsB j.id j.needs = true) (i5 : timeB j.came = true) (i6 : beganJ j = false) : Calls Try.prog 32 #[.agg #[.int .i64 j.id, .int .i64 j.spec.nodes, .int .i64 j.spec.cores, .int .i64 j.spec.gpus, .string j.spec.tag, .bool j.spec.whole, .int .i64 j.spec.long, .int .i64 j.spec.prio, .slice A m c, .int .i64 j.state, .int .i64 j.came, .int .i64 j.frm, .int .i64 j.to]] w fun e w' => e = .returned (.bool (rightJ j)) ∧ Below w.heap.size w w' := by
  obtain ⟨W, hW⟩ : ∃ W, W = w.alloc (jO j A m c) := ⟨_, rfl⟩
  have BX : Hid (BoxJ W w.heap.size j A m c) := Lib.hid (by rw [hW]; exact boxJ_new w j A m c)
  have HB : Hid (Below w.heap.size w W) := Lib.hid (by rw [hW]; exact (Below.refl _ _).alloc (Nat.le_refl _) _)
  have JA := Lib.hid (hj.next HB.out)
  have d1 : decide (1 ≤ j.id) = true := decide_eq_true i1
  have d2 : decide (j.id ≤ 1073741824) = true := decide_eq_true i2
  have R3 := Lib.hid i3
  have R4 := Lib.hid i4
  have R5 := Lib.hid i5
  have R6 := Lib.hid i6
  have e1 : Hid (rightJ j = false) := Lib.hid (by rw [right_parts, d1, d2, i3, i4, i5, i6]; rfl)
  clear i1 i2 i3 i4 i5 i6 hj
  unfold jO at hW
  have q0 := BX.out.c0
  have q1 := BX.out.c1
  have q2 := BX.out.c2
  have q3 := BX.out.c3
  have q4 := BX.out.c4
  have q5 := BX.out.c5
  have q6 := BX.out.c6
  have q7 := BX.out.c7
  have q8 := BX.out.c8
  have q9 := BX.out.c9
  have q10 := BX.out.c10
  have q11 := BX.out.c11
  have q12 := BX.out.c12
  go_enter Try.func32, Try.ntmps32
  go_wp2_with fail
  rw [← hW]
  refine (specRight_b JA.out.spec R3.out).mono ?_
  rintro e w1 ⟨rfl, hb⟩
  have HBq := Lib.hid (HB.out.trans (hb.mono HB.out.size))
  clear HB
  have HB := HBq
  clear HBq
  have BXq := Lib.hid (BX.out.next hb)
  clear BX
  have BX := BXq
  clear BXq
  have JAq := Lib.hid (JA.out.next hb)
  clear JA
  have JA := JAq
  clear JAq
  clear hb
  clear hW
  clear q0 q1 q2 q3 q4 q5 q6 q7 q8 q9 q10 q11 q12
  have q0 := BX.out.c0
  have q1 := BX.out.c1
  have q2 := BX.out.c2
  have q3 := BX.out.c3
  have q4 := BX.out.c4
  have q5 := BX.out.c5
  have q6 := BX.out.c6
  have q7 := BX.out.c7
  have q8 := BX.out.c8
  have q9 := BX.out.c9
  have q10 := BX.out.c10
  have q11 := BX.out.c11
  have q12 := BX.out.c12
  go_wp2_with fail
  refine (needs_b JA.out.reads JA.out.few R4.out).mono ?_
  rintro e wz ⟨rfl, rfl⟩
  go_wp2_with fail
  refine (whenRight_b j.came _ _ R5.out).mono ?_
  rintro e wz ⟨rfl, rfl⟩
  go_wp2_with fail
  refine (began_b R6.out).mono ?_
  rintro e w2 ⟨rfl, hb⟩
  have HBq := Lib.hid (HB.out.trans (hb.mono HB.out.size))
  clear HB
  have HB := HBq
  clear HBq
  have BXq := Lib.hid (BX.out.next hb)
  clear BX
  have BX := BXq
  clear BXq
  have JAq := Lib.hid (JA.out.next hb)
  clear JA
  have JA := JAq
  clear JAq
  clear hb
  clear q0 q1 q2 q3 q4 q5 q6 q7 q8 q9 q10 q11 q12
  have q0 := BX.out.c0
  have q1 := BX.out.c1
  have q2 := BX.out.c2
  have q3 := BX.out.c3
  have q4 := BX.out.c4
  have q5 := BX.out.c5
  have q6 := BX.out.c6
  have q7 := BX.out.c7
  have q8 := BX.out.c8
  have q9 := BX.out.c9
  have q10 := BX.out.c10
  have q11 := BX.out.c11
  have q12 := BX.out.c12
  go_wp2
  go_ret
  exact ⟨ret_bl e1.out, HB.out⟩
set_option maxRecDepth 100000 in
set_option maxHeartbeats 8000000 in
theorem right_6 (A : Option Addr) (m c : Nat) (j : Jb) (w : World) (hj : JAsk w A m c j) (i1 : 1 ≤ j.id) (i2 : j.id ≤ 1073741824) (i3 : rightS j.spec = true) (i4 : needsB j.id j.needs = true) (i5 : timeB j.came = true) (i6 : beganJ j = true) (i7 : endedJ j = false) : Calls Try.prog 32 #[.agg #[.int .i64 j.id, .int .i64 j.spec.nodes, .int .i64 j.spec.cores, .int .i64 j.spec.gpus, .string j.spec.tag, .bool j.spec.whole, .int .i64 j.spec.long, .int .i64 j.spec.prio, .slice A m c, .int .i64 j.state, .int .i64 j.came, .int .i64 j.frm, .int .i64 j.to]] w fun e w' => e = .returned (.bool (rightJ j)) ∧ Below w.heap.size w w' := by
  obtain ⟨W, hW⟩ : ∃ W, W = w.alloc (jO j A m c) := ⟨_, rfl⟩
  have BX : Hid (BoxJ W w.heap.size j A m c) := Lib.hid (by rw [hW]; exact boxJ_new w j A m c)
  have HB : Hid (Below w.heap.size w W) := Lib.hid (by rw [hW]; exact (Below.refl _ _).alloc (Nat.le_refl _) _)
  have JA := Lib.hid (hj.next HB.out)
  have d1 : decide (1 ≤ j.id) = true := decide_eq_true i1
  have d2 : decide (j.id ≤ 1073741824) = true := decide_eq_true i2
  have R3 := Lib.hid i3
  have R4 := Lib.hid i4
  have R5 := Lib.hid i5
  have R6 := Lib.hid i6
  have R7 := Lib.hid i7
  have e1 : Hid (rightJ j = false) := Lib.hid (by rw [right_parts, d1, d2, i3, i4, i5, i6, i7]; rfl)
  clear i1 i2 i3 i4 i5 i6 i7 hj
  unfold jO at hW
  have q0 := BX.out.c0
  have q1 := BX.out.c1
  have q2 := BX.out.c2
  have q3 := BX.out.c3
  have q4 := BX.out.c4
  have q5 := BX.out.c5
  have q6 := BX.out.c6
  have q7 := BX.out.c7
  have q8 := BX.out.c8
  have q9 := BX.out.c9
  have q10 := BX.out.c10
  have q11 := BX.out.c11
  have q12 := BX.out.c12
  go_enter Try.func32, Try.ntmps32
  go_wp2_with fail
  rw [← hW]
  refine (specRight_b JA.out.spec R3.out).mono ?_
  rintro e w1 ⟨rfl, hb⟩
  have HBq := Lib.hid (HB.out.trans (hb.mono HB.out.size))
  clear HB
  have HB := HBq
  clear HBq
  have BXq := Lib.hid (BX.out.next hb)
  clear BX
  have BX := BXq
  clear BXq
  have JAq := Lib.hid (JA.out.next hb)
  clear JA
  have JA := JAq
  clear JAq
  clear hb
  clear hW
  clear q0 q1 q2 q3 q4 q5 q6 q7 q8 q9 q10 q11 q12
  have q0 := BX.out.c0
  have q1 := BX.out.c1
  have q2 := BX.out.c2
  have q3 := BX.out.c3
  have q4 := BX.out.c4
  have q5 := BX.out.c5
  have q6 := BX.out.c6
  have q7 := BX.out.c7
  have q8 := BX.out.c8
  have q9 := BX.out.c9
  have q10 := BX.out.c10
  have q11 := BX.out.c11
  have q12 := BX.out.c12
  go_wp2_with fail
  refine (needs_b JA.out.reads JA.out.few R4.out).mono ?_
  rintro e wz ⟨rfl, rfl⟩
  go_wp2_with fail
  refine (whenRight_b j.came _ _ R5.out).mono ?_
  rintro e wz ⟨rfl, rfl⟩
  go_wp2_with fail
  refine (began_b R6.out).mono ?_
  rintro e w2 ⟨rfl, hb⟩
  have HBq := Lib.hid (HB.out.trans (hb.mono HB.out.size))
  clear HB
  have HB := HBq
  clear HBq
  have BXq := Lib.hid (BX.out.next hb)
  clear BX
  have BX := BXq
  clear BXq
  have JAq := Lib.hid (JA.out.next hb)
  clear JA
  have JA := JAq
  clear JAq
  clear hb
  clear q0 q1 q2 q3 q4 q5 q6 q7 q8 q9 q10 q11 q12
  have q0 := BX.out.c0
  have q1 := BX.out.c1
  have q2 := BX.out.c2
  have q3 := BX.out.c3
  have q4 := BX.out.c4
  have q5 := BX.out.c5
  have q6 := BX.out.c6
  have q7 := BX.out.c7
  have q8 := BX.out.c8
  have q9 := BX.out.c9
  have q10 := BX.out.c10
  have q11 := BX.out.c11
  have q12 := BX.out.c12
  go_wp2_with fail
  refine (ended_b R7.out).mono ?_
  rintro e w3 ⟨rfl, hb⟩
  have HBq := Lib.hid (HB.out.trans (hb.mono HB.out.size))
  clear HB
  have HB := HBq
  clear HBq
  have BXq := Lib.hid (BX.out.next hb)
  clear BX
  have BX := BXq
  clear BXq
  have JAq := Lib.hid (JA.out.next hb)
  clear JA
  have JA := JAq
  clear JAq
  clear hb
  clear q0 q1 q2 q3 q4 q5 q6 q7 q8 q9 q10 q11 q12
  have q0 := BX.out.c0
  have q1 := BX.out.c1
  have q2 := BX.out.c2
  have q3 := BX.out.c3
  have q4 := BX.out.c4
  have q5 := BX.out.c5
  have q6 := BX.out.c6
  have q7 := BX.out.c7
  have q8 := BX.out.c8
  have q9 := BX.out.c9
  have q10 := BX.out.c10
  have q11 := BX.out.c11
  have q12 := BX.out.c12
  go_wp2
  go_ret
  exact ⟨ret_bl e1.out, HB.out⟩
set_option maxRecDepth 100000 in
set_option maxHeartbeats 8000000 in
theorem right_7 (A : Option Addr) (m c : Nat) (j : Jb) (w : World) (hj : JAsk w A m c j) (i1 : 1 ≤ j.id) (i2 : j.id ≤ 1073741824) (i3 : rightS j.spec = true) (i4 : needsB j.id j.needs = true) (i5 : timeB j.came = true) (i6 : beganJ j = true) (i7 : endedJ j = true) : Calls Try.prog 32 #[.agg #[.int .i64 j.id, .int .i64 j.spec.nodes, .int .i64 j.spec.cores, .int .i64 j.spec.gpus, .string j.spec.tag, .bool j.spec.whole, .int .i64 j.spec.long, .int .i64 j.spec.prio, .slice A m c, .int .i64 j.state, .int .i64 j.came, .int .i64 j.frm, .int .i64 j.to]] w fun e w' => e = .returned (.bool (rightJ j)) ∧ Below w.heap.size w w' := by
  obtain ⟨W, hW⟩ : ∃ W, W = w.alloc (jO j A m c) := ⟨_, rfl⟩
  have BX : Hid (BoxJ W w.heap.size j A m c) := Lib.hid (by rw [hW]; exact boxJ_new w j A m c)
  have HB : Hid (Below w.heap.size w W) := Lib.hid (by rw [hW]; exact (Below.refl _ _).alloc (Nat.le_refl _) _)
  have JA := Lib.hid (hj.next HB.out)
  have d1 : decide (1 ≤ j.id) = true := decide_eq_true i1
  have d2 : decide (j.id ≤ 1073741824) = true := decide_eq_true i2
  have R3 := Lib.hid i3
  have R4 := Lib.hid i4
  have R5 := Lib.hid i5
  have R6 := Lib.hid i6
  have R7 := Lib.hid i7
  have e1 : Hid (rightJ j = true) := Lib.hid (by rw [right_parts, d1, d2, i3, i4, i5, i6, i7]; rfl)
  clear i1 i2 i3 i4 i5 i6 i7 hj
  unfold jO at hW
  have q0 := BX.out.c0
  have q1 := BX.out.c1
  have q2 := BX.out.c2
  have q3 := BX.out.c3
  have q4 := BX.out.c4
  have q5 := BX.out.c5
  have q6 := BX.out.c6
  have q7 := BX.out.c7
  have q8 := BX.out.c8
  have q9 := BX.out.c9
  have q10 := BX.out.c10
  have q11 := BX.out.c11
  have q12 := BX.out.c12
  go_enter Try.func32, Try.ntmps32
  go_wp2_with fail
  rw [← hW]
  refine (specRight_b JA.out.spec R3.out).mono ?_
  rintro e w1 ⟨rfl, hb⟩
  have HBq := Lib.hid (HB.out.trans (hb.mono HB.out.size))
  clear HB
  have HB := HBq
  clear HBq
  have BXq := Lib.hid (BX.out.next hb)
  clear BX
  have BX := BXq
  clear BXq
  have JAq := Lib.hid (JA.out.next hb)
  clear JA
  have JA := JAq
  clear JAq
  clear hb
  clear hW
  clear q0 q1 q2 q3 q4 q5 q6 q7 q8 q9 q10 q11 q12
  have q0 := BX.out.c0
  have q1 := BX.out.c1
  have q2 := BX.out.c2
  have q3 := BX.out.c3
  have q4 := BX.out.c4
  have q5 := BX.out.c5
  have q6 := BX.out.c6
  have q7 := BX.out.c7
  have q8 := BX.out.c8
  have q9 := BX.out.c9
  have q10 := BX.out.c10
  have q11 := BX.out.c11
  have q12 := BX.out.c12
  go_wp2_with fail
  refine (needs_b JA.out.reads JA.out.few R4.out).mono ?_
  rintro e wz ⟨rfl, rfl⟩
  go_wp2_with fail
  refine (whenRight_b j.came _ _ R5.out).mono ?_
  rintro e wz ⟨rfl, rfl⟩
  go_wp2_with fail
  refine (began_b R6.out).mono ?_
  rintro e w2 ⟨rfl, hb⟩
  have HBq := Lib.hid (HB.out.trans (hb.mono HB.out.size))
  clear HB
  have HB := HBq
  clear HBq
  have BXq := Lib.hid (BX.out.next hb)
  clear BX
  have BX := BXq
  clear BXq
  have JAq := Lib.hid (JA.out.next hb)
  clear JA
  have JA := JAq
  clear JAq
  clear hb
  clear q0 q1 q2 q3 q4 q5 q6 q7 q8 q9 q10 q11 q12
  have q0 := BX.out.c0
  have q1 := BX.out.c1
  have q2 := BX.out.c2
  have q3 := BX.out.c3
  have q4 := BX.out.c4
  have q5 := BX.out.c5
  have q6 := BX.out.c6
  have q7 := BX.out.c7
  have q8 := BX.out.c8
  have q9 := BX.out.c9
  have q10 := BX.out.c10
  have q11 := BX.out.c11
  have q12 := BX.out.c12
  go_wp2_with fail
  refine (ended_b R7.out).mono ?_
  rintro e w3 ⟨rfl, hb⟩
  have HBq := Lib.hid (HB.out.trans (hb.mono HB.out.size))
  clear HB
  have HB := HBq
  clear HBq
  have BXq := Lib.hid (BX.out.next hb)
  clear BX
  have BX := BXq
  clear BXq
  have JAq := Lib.hid (JA.out.next hb)
  clear JA
  have JA := JAq
  clear JAq
  clear hb
  clear q0 q1 q2 q3 q4 q5 q6 q7 q8 q9 q10 q11 q12
  have q0 := BX.out.c0
  have q1 := BX.out.c1
  have q2 := BX.out.c2
  have q3 := BX.out.c3
  have q4 := BX.out.c4
  have q5 := BX.out.c5
  have q6 := BX.out.c6
  have q7 := BX.out.c7
  have q8 := BX.out.c8
  have q9 := BX.out.c9
  have q10 := BX.out.c10
  have q11 := BX.out.c11
  have q12 := BX.out.c12
  go_wp2
  go_ret
  exact ⟨ret_bl e1.out, HB.out⟩
theorem jobRight_any (A : Option Addr) (m c : Nat) (j : Jb) (w : World) (hj : JAsk w A m c j) : Calls Try.prog 32 #[.agg #[.int .i64 j.id, .int .i64 j.spec.nodes, .int .i64 j.spec.cores, .int .i64 j.spec.gpus, .string j.spec.tag, .bool j.spec.whole, .int .i64 j.spec.long, .int .i64 j.spec.prio, .slice A m c, .int .i64 j.state, .int .i64 j.came, .int .i64 j.frm, .int .i64 j.to]] w fun e w' => e = .returned (.bool (rightJ j)) ∧ Below w.heap.size w w' := by
  by_cases i1 : 1 ≤ j.id
  case neg => exact right_0 A m c j w hj i1
  by_cases i2 : j.id ≤ 1073741824
  case neg => exact right_1 A m c j w hj i1 i2
  cases i3 : rightS j.spec with
  | false => exact right_2 A m c j w hj i1 i2 i3
  | true =>
  cases i4 : needsB j.id j.needs with
  | false => exact right_3 A m c j w hj i1 i2 i3 i4
  | true =>
  cases i5 : timeB j.came with
  | false => exact right_4 A m c j w hj i1 i2 i3 i4 i5
  | true =>
  cases i6 : beganJ j with
  | false => exact right_5 A m c j w hj i1 i2 i3 i4 i5 i6
  | true =>
  cases i7 : endedJ j with
  | false => exact right_6 A m c j w hj i1 i2 i3 i4 i5 i6 i7
  | true => exact right_7 A m c j w hj i1 i2 i3 i4 i5 i6 i7
theorem jobRight_b {A : Option Addr} {m c : Nat} {j : Jb} {w : World} {v : Bool} (hj : JAsk w A m c j) (h : rightJ j = v) :
    Calls Try.prog 32 #[.agg #[.int .i64 j.id, .int .i64 j.spec.nodes, .int .i64 j.spec.cores, .int .i64 j.spec.gpus, .string j.spec.tag, .bool j.spec.whole, .int .i64 j.spec.long, .int .i64 j.spec.prio, .slice A m c, .int .i64 j.state, .int .i64 j.came, .int .i64 j.frm, .int .i64 j.to]] w fun e w' => e = .returned (.bool v) ∧ Below w.heap.size w w' := by
  subst h; exact jobRight_any A m c j w hj

end Go.Proofs.Ytimgdlddfnglaaa
