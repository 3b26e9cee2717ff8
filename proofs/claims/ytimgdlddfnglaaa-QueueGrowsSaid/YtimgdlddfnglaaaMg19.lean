/- The program's began and ended of layer 11 (job): may a job's From, To be in its state. Written by gen/gen_jobp.py. -/
import Derived.Test.YtimgdlddfnglaaaMg17
namespace Go.Proofs.Ytimgdlddfnglaaa
open Go.RowKit

def behindJ (j : Jb) : Bool := timeB j.frm && decide (j.came ≤ j.frm)
def beganJ (j : Jb) : Bool := if j.state = 0 ∨ j.state = 1 ∨ j.state = 6 then decide (j.frm = 0) else if j.state = 5 then (decide (j.frm = 0) || behindJ j) else if j.state = 2 ∨ j.state = 3 ∨ j.state = 4 then behindJ j else false
def endedJ (j : Jb) : Bool := if overJ j.state = true then (timeB j.to && (decide (j.came ≤ j.to) && decide (j.frm ≤ j.to))) else decide (j.to = 0)
theorem began_iff {j : Jb} : beganJ j = true ↔ (0 ≤ j.state ∧ j.state ≤ 6) ∧ TimeOk j.frm ∧ FromOk j := by
  unfold beganJ behindJ timeB FromOk TimeOk
  by_cases h : 0 ≤ j.state ∧ j.state ≤ 6
  · rcases (show j.state = 0 ∨ j.state = 1 ∨ j.state = 2 ∨ j.state = 3 ∨ j.state = 4 ∨ j.state = 5 ∨ j.state = 6 by omega) with e | e | e | e | e | e | e
    all_goals
      simp [e]
      try omega
  · rw [if_neg (by omega), if_neg (by omega), if_neg (by omega)]
    constructor
    · intro h'; cases h'
    · intro h'; exact absurd h'.1 h
theorem ended_iff {j : Jb} (h1 : 0 ≤ j.state) (h2 : j.state ≤ 6) : endedJ j = true ↔ TimeOk j.to ∧ ToOk j := by
  unfold endedJ timeB ToOk TimeOk overJ
  rcases (show j.state = 0 ∨ j.state = 1 ∨ j.state = 2 ∨ j.state = 3 ∨ j.state = 4 ∨ j.state = 5 ∨ j.state = 6 by omega) with e | e | e | e | e | e | e
  all_goals
    simp [e]
    try omega
theorem right_parts {j : Jb} : rightJ j = (decide (1 ≤ j.id) && (decide (j.id ≤ 1073741824) && (rightS j.spec && (needsB j.id j.needs && (timeB j.came && (beganJ j && endedJ j)))))) := by
  rw [Bool.eq_iff_iff]
  unfold rightJ needsB timeB
  simp only [decide_eq_true_eq, Bool.and_eq_true, began_iff]
  unfold RightJ HeadOk NeedsOk StateOk
  constructor
  · rintro ⟨⟨⟨h1, h2⟩, h3, h4, h5⟩, h6, ⟨h7, h8, h9⟩, h10, h11⟩
    exact ⟨h1, h2, h3, ⟨h4, h6⟩, h5, ⟨h7, h8, h10⟩, (ended_iff h7.1 h7.2).2 ⟨h9, h11⟩⟩
  · rintro ⟨h1, h2, h3, ⟨h4, h6⟩, h5, ⟨h7, h8, h10⟩, h12⟩
    have h13 := (ended_iff h7.1 h7.2).1 h12
    exact ⟨⟨⟨h1, h2⟩, h3, h4, h5⟩, h6, ⟨h7, h8, h13.1⟩, h10, h13.2⟩
set_option maxRecDepth 100000 in
set_option maxHeartbeats 8000000 in
theorem began_1 (A : Option Addr) (m c : Nat) (j : Jb) (w : World) (hb : timeB j.frm = false) (hs : j.state = 0) (hz : j.frm = 0) : Calls Try.prog 50 #[.agg #[.int .i64 j.id, .int .i64 j.spec.nodes, .int .i64 j.spec.cores, .int .i64 j.spec.gpus, .string j.spec.tag, .bool j.spec.whole, .int .i64 j.spec.long, .int .i64 j.spec.prio, .slice A m c, .int .i64 j.state, .int .i64 j.came, .int .i64 j.frm, .int .i64 j.to]] w fun e w' => e = .returned (.bool (beganJ j)) ∧ Below w.heap.size w w' := by
  obtain ⟨W, hW⟩ : ∃ W, W = w.alloc (jO j A m c) := ⟨_, rfl⟩
  have BX : Hid (BoxJ W w.heap.size j A m c) := Lib.hid (by rw [hW]; exact boxJ_new w j A m c)
  have HB : Hid (Below w.heap.size w W) := Lib.hid (by rw [hW]; exact (Below.refl _ _).alloc (Nat.le_refl _) _)
  unfold jO at hW
  have TB := Lib.hid hb
  have hbe : behindJ j = false := by unfold behindJ; rw [hb]; rfl
  have s0 : (j.state == 0) = true := by rw [hs]; rfl
  have s1 : (j.state == 1) = false := by rw [hs]; rfl
  have s2 : (j.state == 2) = false := by rw [hs]; rfl
  have s3 : (j.state == 3) = false := by rw [hs]; rfl
  have s4 : (j.state == 4) = false := by rw [hs]; rfl
  have s5 : (j.state == 5) = false := by rw [hs]; rfl
  have s6 : (j.state == 6) = false := by rw [hs]; rfl
  have z0 : (j.frm == 0) = true := by rw [beq_iff_eq]; exact hz
  have e1 : Hid (beganJ j = true) := Lib.hid (by unfold beganJ; rw [if_pos (by omega)]; exact decide_eq_true hz)
  clear hb hbe hs hz
  have q0 := BX.out.c0
  have q1 := BX.out.c1
  have q2 := BX.out.c2
  have q3 := BX.out.c3
  have q4 := BX.out.c4
  have q5 := BX.out.c5
  have q6 := BX.out.c6
  have q7 := BX.out.c7
  have q8 := BX.out.c8
  have q9 := BX.out.c9
  have q10 := BX.out.c10
  have q11 := BX.out.c11
  have q12 := BX.out.c12
  go_enter Try.func50, Try.ntmps50
  go_wp2_with fail
  rw [← hW]
  clear hW
  refine (whenRight_b j.frm _ _ TB.out).mono ?_
  rintro e wz ⟨rfl, rfl⟩
  go_wp2
  go_ret
  exact ⟨ret_bl e1.out, HB.out⟩
set_option maxRecDepth 100000 in
set_option maxHeartbeats 8000000 in
theorem began_2 (A : Option Addr) (m c : Nat) (j : Jb) (w : World) (hb : timeB j.frm = false) (hs : j.state = 0) (hz : ¬ j.frm = 0) : Calls Try.prog 50 #[.agg #[.int .i64 j.id, .int .i64 j.spec.nodes, .int .i64 j.spec.cores, .int .i64 j.spec.gpus, .string j.spec.tag, .bool j.spec.whole, .int .i64 j.spec.long, .int .i64 j.spec.prio, .slice A m c, .int .i64 j.state, .int .i64 j.came, .int .i64 j.frm, .int .i64 j.to]] w fun e w' => e = .returned (.bool (beganJ j)) ∧ Below w.heap.size w w' := by
  obtain ⟨W, hW⟩ : ∃ W, W = w.alloc (jO j A m c) := ⟨_, rfl⟩
  have BX : Hid (BoxJ W w.heap.size j A m c) := Lib.hid (by rw [hW]; exact boxJ_new w j A m c)
  have HB : Hid (Below w.heap.size w W) := Lib.hid (by rw [hW]; exact (Below.refl _ _).alloc (Nat.le_refl _) _)
  unfold jO at hW
  have TB := Lib.hid hb
  have hbe : behindJ j = false := by unfold behindJ; rw [hb]; rfl
  have s0 : (j.state == 0) = true := by rw [hs]; rfl
  have s1 : (j.state == 1) = false := by rw [hs]; rfl
  have s2 : (j.state == 2) = false := by rw [hs]; rfl
  have s3 : (j.state == 3) = false := by rw [hs]; rfl
  have s4 : (j.state == 4) = false := by rw [hs]; rfl
  have s5 : (j.state == 5) = false := by rw [hs]; rfl
  have s6 : (j.state == 6) = false := by rw [hs]; rfl
  have z0 : (j.frm == 0) = false := by rw [beq_eq_false_iff_ne]; exact hz
  have e1 : Hid (beganJ j = false) := Lib.hid (by unfold beganJ; rw [if_pos (by omega)]; exact decide_eq_false hz)
  clear hb hbe hs hz
  have q0 := BX.out.c0
  have q1 := BX.out.c1
  have q2 := BX.out.c2
  have q3 := BX.out.c3
  have q4 := BX.out.c4
  have q5 := BX.out.c5
  have q6 := BX.out.c6
  have q7 := BX.out.c7
  have q8 := BX.out.c8
  have q9 := BX.out.c9
  have q10 := BX.out.c10
  have q11 := BX.out.c11
  have q12 := BX.out.c12
  go_enter Try.func50, Try.ntmps50
  go_wp2_with fail
  rw [← hW]
  clear hW
  refine (whenRight_b j.frm _ _ TB.out).mono ?_
  rintro e wz ⟨rfl, rfl⟩
  go_wp2
  go_ret
  exact ⟨ret_bl e1.out, HB.out⟩
set_option maxRecDepth 100000 in
set_option maxHeartbeats 8000000 in
theorem began_3 (A : Option Addr) (m c : Nat) (j : Jb) (w : World) (hb : timeB j.frm = false) (hs : j.state = 1) (hz : j.frm = 0) : Calls Try.prog 50 #[.agg #[.int .i64 j.id, .int .i64 j.spec.nodes, .int .i64 j.spec.cores, .int .i64 j.spec.gpus, .string j.spec.tag, .bool j.spec.whole, .int .i64 j.spec.long, .int .i64 j.spec.prio, .slice A m c, .int .i64 j.state, .int .i64 j.came, .int .i64 j.frm, .int .i64 j.to]] w fun e w' => e = .returned (.bool (beganJ j)) ∧ Below w.heap.size w w' := by
  obtain ⟨W, hW⟩ : ∃ W, W = w.alloc (jO j A m c) := ⟨_, rfl⟩
  have BX : Hid (BoxJ W w.heap.size j A m c) := Lib.hid (by rw [hW]; exact boxJ_new w j A m c)
  have HB : Hid (Below w.heap.size w W) := Lib.hid (by rw [hW]; exact (Below.refl _ _).alloc (Nat.le_refl _) _)
  unfold jO at hW
  have TB := Lib.hid hb
  have hbe : behindJ j = false := by unfold behindJ; rw [hb]; rfl
  have s0 : (j.state == 0) = false := by rw [hs]; rfl
  have s1 : (j.state == 1) = true := by rw [hs]; rfl
  have s2 : (j.state == 2) = false := by rw [hs]; rfl
  have s3 : (j.state == 3) = false := by rw [hs]; rfl
  have s4 : (j.state == 4) = false := by rw [hs]; rfl
  have s5 : (j.state == 5) = false := by rw [hs]; rfl
  have s6 : (j.state == 6) = false := by rw [hs]; rfl
  have z0 : (j.frm == 0) = true := by rw [beq_iff_eq]; exact hz
  have e1 : Hid (beganJ j = true) := Lib.hid (by unfold beganJ; rw [if_pos (by omega)]; exact decide_eq_true hz)
  clear hb hbe hs hz
  have q0 := BX.out.c0
  have q1 := BX.out.c1
  have q2 := BX.out.c2
  have q3 := BX.out.c3
  have q4 := BX.out.c4
  have q5 := BX.out.c5
  have q6 := BX.out.c6
  have q7 := BX.out.c7
  have q8 := BX.out.c8
  have q9 := BX.out.c9
  have q10 := BX.out.c10
  have q11 := BX.out.c11
  have q12 := BX.out.c12
  go_enter Try.func50, Try.ntmps50
  go_wp2_with fail
  rw [← hW]
  clear hW
  refine (whenRight_b j.frm _ _ TB.out).mono ?_
  rintro e wz ⟨rfl, rfl⟩
  go_wp2
  go_ret
  exact ⟨ret_bl e1.out, HB.out⟩
set_option maxRecDepth 100000 in
set_option maxHeartbeats 8000000 in
theorem began_4 (A : Option Addr) (m c : Nat) (j : Jb) (w : World) (hb : timeB j.frm = false) (hs : j.state = 1) (hz : ¬ j.frm = 0) : Calls Try.prog 50 #[.agg #[.int .i64 j.id, .int .i64 j.spec.nodes, .int .i64 j.spec.cores, .int .i64 j.spec.gpus, .string j.spec.tag, .bool j.spec.whole, .int .i64 j.spec.long, .int .i64 j.spec.prio, .slice A m c, .int .i64 j.state, .int .i64 j.came, .int .i64 j.frm, .int .i64 j.to]] w fun e w' => e = .returned (.bool (beganJ j)) ∧ Below w.heap.size w w' := by
  obtain ⟨W, hW⟩ : ∃ W, W = w.alloc (jO j A m c) := ⟨_, rfl⟩
  have BX : Hid (BoxJ W w.heap.size j A m c) := Lib.hid (by rw [hW]; exact boxJ_new w j A m c)
  have HB : Hid (Below w.heap.size w W) := Lib.hid (by rw [hW]; exact (Below.refl _ _).alloc (Nat.le_refl _) _)
  unfold jO at hW
  have TB := Lib.hid hb
  have hbe : behindJ j = false := by unfold behindJ; rw [hb]; rfl
  have s0 : (j.state == 0) = false := by rw [hs]; rfl
  have s1 : (j.state == 1) = true := by rw [hs]; rfl
  have s2 : (j.state == 2) = false := by rw [hs]; rfl
  have s3 : (j.state == 3) = false := by rw [hs]; rfl
  have s4 : (j.state == 4) = false := by rw [hs]; rfl
  have s5 : (j.state == 5) = false := by rw [hs]; rfl
  have s6 : (j.state == 6) = false := by rw [hs]; rfl
  have z0 : (j.frm == 0) = false := by rw [beq_eq_false_iff_ne]; exact hz
  have e1 : Hid (beganJ j = false) := Lib.hid (by unfold beganJ; rw [if_pos (by omega)]; exact decide_eq_false hz)
  clear hb hbe hs hz
  have q0 := BX.out.c0
  have q1 := BX.out.c1
  have q2 := BX.out.c2
  have q3 := BX.out.c3
  have q4 := BX.out.c4
  have q5 := BX.out.c5
  have q6 := BX.out.c6
  have q7 := BX.out.c7
  have q8 := BX.out.c8
  have q9 := BX.out.c9
  have q10 := BX.out.c10
  have q11 := BX.out.c11
  have q12 := BX.out.c12
  go_enter Try.func50, Try.ntmps50
  go_wp2_with fail
  rw [← hW]
  clear hW
  refine (whenRight_b j.frm _ _ TB.out).mono ?_
  rintro e wz ⟨rfl, rfl⟩
  go_wp2
  go_ret
  exact ⟨ret_bl e1.out, HB.out⟩
set_option maxRecDepth 100000 in
set_option maxHeartbeats 8000000 in
theorem began_5 (A : Option Addr) (m c : Nat) (j : Jb) (w : World) (hb : timeB j.frm = false) (hs : j.state = 6) (hz : j.frm = 0) : Calls Try.prog 50 #[.agg #[.int .i64 j.id, .int .i64 j.spec.nodes, .int .i64 j.spec.cores, .int .i64 j.spec.gpus, .string j.spec.tag, .bool j.spec.whole, .int .i64 j.spec.long, .int .i64 j.spec.prio, .slice A m c, .int .i64 j.state, .int .i64 j.came, .int .i64 j.frm, .int .i64 j.to]] w fun e w' => e = .returned (.bool (beganJ j)) ∧ Below w.heap.size w w' := by
  obtain ⟨W, hW⟩ : ∃ W, W = w.alloc (jO j A m c) := ⟨_, rfl⟩
  have BX : Hid (BoxJ W w.heap.size j A m c) := Lib.hid (by rw [hW]; exact boxJ_new w j A m c)
  have HB : Hid (Below w.heap.size w W) := Lib.hid (by rw [hW]; exact (Below.refl _ _).alloc (Nat.le_refl _) _)
  unfold jO at hW
  have TB := Lib.hid hb
  have hbe : behindJ j = false := by unfold behindJ; rw [hb]; rfl
  have s0 : (j.state == 0) = false := by rw [hs]; rfl
  have s1 : (j.state == 1) = false := by rw [hs]; rfl
  have s2 : (j.state == 2) = false := by rw [hs]; rfl
  have s3 : (j.state == 3) = false := by rw [hs]; rfl
  have s4 : (j.state == 4) = false := by rw [hs]; rfl
  have s5 : (j.state == 5) = false := by rw [hs]; rfl
  have s6 : (j.state == 6) = true := by rw [hs]; rfl
  have z0 : (j.frm == 0) = true := by rw [beq_iff_eq]; exact hz
  have e1 : Hid (beganJ j = true) := Lib.hid (by unfold beganJ; rw [if_pos (by omega)]; exact decide_eq_true hz)
  clear hb hbe hs hz
  have q0 := BX.out.c0
  have q1 := BX.out.c1
  have q2 := BX.out.c2
  have q3 := BX.out.c3
  have q4 := BX.out.c4
  have q5 := BX.out.c5
  have q6 := BX.out.c6
  have q7 := BX.out.c7
  have q8 := BX.out.c8
  have q9 := BX.out.c9
  have q10 := BX.out.c10
  have q11 := BX.out.c11
  have q12 := BX.out.c12
  go_enter Try.func50, Try.ntmps50
  go_wp2_with fail
  rw [← hW]
  clear hW
  refine (whenRight_b j.frm _ _ TB.out).mono ?_
  rintro e wz ⟨rfl, rfl⟩
  go_wp2
  go_ret
  exact ⟨ret_bl e1.out, HB.out⟩
set_option maxRecDepth 100000 in
set_option maxHeartbeats 8000000 in
theorem began_6 (A : Option Addr) (m c : Nat) (j : Jb) (w : World) (hb : timeB j.frm = false) (hs : j.state = 6) (hz : ¬ j.frm = 0) : Calls Try.prog 50 #[.agg #[.int .i64 j.id, .int .i64 j.spec.nodes, .int .i64 j.spec.cores, .int .i64 j.spec.gpus, .string j.spec.tag, .bool j.spec.whole, .int .i64 j.spec.long, .int .i64 j.spec.prio, .slice A m c, .int .i64 j.state, .int .i64 j.came, .int .i64 j.frm, .int .i64 j.to]] w fun e w' => e = .returned (.bool (beganJ j)) ∧ Below w.heap.size w w' := by
  obtain ⟨W, hW⟩ : ∃ W, W = w.alloc (jO j A m c) := ⟨_, rfl⟩
  have BX : Hid (BoxJ W w.heap.size j A m c) := Lib.hid (by rw [hW]; exact boxJ_new w j A m c)
  have HB : Hid (Below w.heap.size w W) := Lib.hid (by rw [hW]; exact (Below.refl _ _).alloc (Nat.le_refl _) _)
  unfold jO at hW
  have TB := Lib.hid hb
  have hbe : behindJ j = false := by unfold behindJ; rw [hb]; rfl
  have s0 : (j.state == 0) = false := by rw [hs]; rfl
  have s1 : (j.state == 1) = false := by rw [hs]; rfl
  have s2 : (j.state == 2) = false := by rw [hs]; rfl
  have s3 : (j.state == 3) = false := by rw [hs]; rfl
  have s4 : (j.state == 4) = false := by rw [hs]; rfl
  have s5 : (j.state == 5) = false := by rw [hs]; rfl
  have s6 : (j.state == 6) = true := by rw [hs]; rfl
  have z0 : (j.frm == 0) = false := by rw [beq_eq_false_iff_ne]; exact hz
  have e1 : Hid (beganJ j = false) := Lib.hid (by unfold beganJ; rw [if_pos (by omega)]; exact decide_eq_false hz)
  clear hb hbe hs hz
  have q0 := BX.out.c0
  have q1 := BX.out.c1
  have q2 := BX.out.c2
  have q3 := BX.out.c3
  have q4 := BX.out.c4
  have q5 := BX.out.c5
  have q6 := BX.out.c6
  have q7 := BX.out.c7
  have q8 := BX.out.c8
  have q9 := BX.out.c9
  have q10 := BX.out.c10
  have q11 := BX.out.c11
  have q12 := BX.out.c12
  go_enter Try.func50, Try.ntmps50
  go_wp2_with fail
  rw [← hW]
  clear hW
  refine (whenRight_b j.frm _ _ TB.out).mono ?_
  rintro e wz ⟨rfl, rfl⟩
  go_wp2
  go_ret
  exact ⟨ret_bl e1.out, HB.out⟩
set_option maxRecDepth 100000 in
set_option maxHeartbeats 8000000 in
theorem began_7 (A : Option Addr) (m c : Nat) (j : Jb) (w : World) (hb : timeB j.frm = false) (hs : j.state = 5) (hz : j.frm = 0) : Calls Try.prog 50 #[.agg #[.int .i64 j.id, .int .i64 j.spec.nodes, .int .i64 j.spec.cores, .int .i64 j.spec.gpus, .string j.spec.tag, .bool j.spec.whole, .int .i64 j.spec.long, .int .i64 j.spec.prio, .slice A m c, .int .i64 j.state, .int .i64 j.came, .int .i64 j.frm, .int .i64 j.to]] w fun e w' => e = .returned (.bool (beganJ j)) ∧ Below w.heap.size w w' := by
  obtain ⟨W, hW⟩ : ∃ W, W = w.alloc (jO j A m c) := ⟨_, rfl⟩
  have BX : Hid (BoxJ W w.heap.size j A m c) := Lib.hid (by rw [hW]; exact boxJ_new w j A m c)
  have HB : Hid (Below w.heap.size w W) := Lib.hid (by rw [hW]; exact (Below.refl _ _).alloc (Nat.le_refl _) _)
  unfold jO at hW
  have TB := Lib.hid hb
  have hbe : behindJ j = false := by unfold behindJ; rw [hb]; rfl
  have s0 : (j.state == 0) = false := by rw [hs]; rfl
  have s1 : (j.state == 1) = false := by rw [hs]; rfl
  have s2 : (j.state == 2) = false := by rw [hs]; rfl
  have s3 : (j.state == 3) = false := by rw [hs]; rfl
  have s4 : (j.state == 4) = false := by rw [hs]; rfl
  have s5 : (j.state == 5) = true := by rw [hs]; rfl
  have s6 : (j.state == 6) = false := by rw [hs]; rfl
  have z0 : (j.frm == 0) = true := by rw [beq_iff_eq]; exact hz
  have e1 : Hid (beganJ j = true) := Lib.hid (by unfold beganJ; rw [if_neg (by omega), if_pos hs, hbe, decide_eq_true hz]; rfl)
  clear hb hbe hs hz
  have q0 := BX.out.c0
  have q1 := BX.out.c1
  have q2 := BX.out.c2
  have q3 := BX.out.c3
  have q4 := BX.out.c4
  have q5 := BX.out.c5
  have q6 := BX.out.c6
  have q7 := BX.out.c7
  have q8 := BX.out.c8
  have q9 := BX.out.c9
  have q10 := BX.out.c10
  have q11 := BX.out.c11
  have q12 := BX.out.c12
  go_enter Try.func50, Try.ntmps50
  go_wp2_with fail
  rw [← hW]
  clear hW
  refine (whenRight_b j.frm _ _ TB.out).mono ?_
  rintro e wz ⟨rfl, rfl⟩
  go_wp2
  go_ret
  exact ⟨ret_bl e1.out, HB.out⟩
set_option maxRecDepth 100000 in
set_option maxHeartbeats 8000000 in
theorem began_8 (A : Option Addr) (m c : Nat) (j : Jb) (w : World) (hb : timeB j.frm = false) (hs : j.state = 5) (hz : ¬ j.frm = 0) : Calls Try.prog 50 #[.agg #[.int .i64 j.id, .int .i64 j.spec.nodes, .int .i64 j.spec.cores, .int .i64 j.spec.gpus, .string j.spec.tag, .bool j.spec.whole, .int .i64 j.spec.long, .int .i64 j.spec.prio, .slice A m c, .int .i64 j.state, .int .i64 j.came, .int .i64 j.frm, .int .i64 j.to]] w fun e w' => e = .returned (.bool (beganJ j)) ∧ Below w.heap.size w w' := by
  obtain ⟨W, hW⟩ : ∃ W, W = w.alloc (jO j A m c) := ⟨_, rfl⟩
  have BX : Hid (BoxJ W w.heap.size j A m c) := Lib.hid (by rw [hW]; exact boxJ_new w j A m c)
  have HB : Hid (Below w.heap.size w W) := Lib.hid (by rw [hW]; exact (Below.refl _ _).alloc (Nat.le_refl _) _)
  unfold jO at hW
  have TB := Lib.hid hb
  have hbe : behindJ j = false := by unfold behindJ; rw [hb]; rfl
  have s0 : (j.state == 0) = false := by rw [hs]; rfl
  have s1 : (j.state == 1) = false := by rw [hs]; rfl
  have s2 : (j.state == 2) = false := by rw [hs]; rfl
  have s3 : (j.state == 3) = false := by rw [hs]; rfl
  have s4 : (j.state == 4) = false := by rw [hs]; rfl
  have s5 : (j.state == 5) = true := by rw [hs]; rfl
  have s6 : (j.state == 6) = false := by rw [hs]; rfl
  have z0 : (j.frm == 0) = false := by rw [beq_eq_false_iff_ne]; exact hz
  have e1 : Hid (beganJ j = false) := Lib.hid (by unfold beganJ; rw [if_neg (by omega), if_pos hs, hbe, decide_eq_false hz]; rfl)
  clear hb hbe hs hz
  have q0 := BX.out.c0
  have q1 := BX.out.c1
  have q2 := BX.out.c2
  have q3 := BX.out.c3
  have q4 := BX.out.c4
  have q5 := BX.out.c5
  have q6 := BX.out.c6
  have q7 := BX.out.c7
  have q8 := BX.out.c8
  have q9 := BX.out.c9
  have q10 := BX.out.c10
  have q11 := BX.out.c11
  have q12 := BX.out.c12
  go_enter Try.func50, Try.ntmps50
  go_wp2_with fail
  rw [← hW]
  clear hW
  refine (whenRight_b j.frm _ _ TB.out).mono ?_
  rintro e wz ⟨rfl, rfl⟩
  go_wp2
  go_ret
  exact ⟨ret_bl e1.out, HB.out⟩
set_option maxRecDepth 100000 in
set_option maxHeartbeats 8000000 in
theorem began_9 (A : Option Addr) (m c : Nat) (j : Jb) (w : World) (hb : timeB j.frm = false) (hs : j.state = 2)  : Calls Try.prog 50 #[.agg #[.int .i64 j.id, .int .i64 j.spec.nodes, .int .i64 j.spec.cores, .int .i64 j.spec.gpus, .string j.spec.tag, .bool j.spec.whole, .int .i64 j.spec.long, .int .i64 j.spec.prio, .slice A m c, .int .i64 j.state, .int .i64 j.came, .int .i64 j.frm, .int .i64 j.to]] w fun e w' => e = .returned (.bool (beganJ j)) ∧ Below w.heap.size w w' := by
  obtain ⟨W, hW⟩ : ∃ W, W = w.alloc (jO j A m c) := ⟨_, rfl⟩
  have BX : Hid (BoxJ W w.heap.size j A m c) := Lib.hid (by rw [hW]; exact boxJ_new w j A m c)
  have HB : Hid (Below w.heap.size w W) := Lib.hid (by rw [hW]; exact (Below.refl _ _).alloc (Nat.le_refl _) _)
  unfold jO at hW
  have TB := Lib.hid hb
  have hbe : behindJ j = false := by unfold behindJ; rw [hb]; rfl
  have s0 : (j.state == 0) = false := by rw [hs]; rfl
  have s1 : (j.state == 1) = false := by rw [hs]; rfl
  have s2 : (j.state == 2) = true := by rw [hs]; rfl
  have s3 : (j.state == 3) = false := by rw [hs]; rfl
  have s4 : (j.state == 4) = false := by rw [hs]; rfl
  have s5 : (j.state == 5) = false := by rw [hs]; rfl
  have s6 : (j.state == 6) = false := by rw [hs]; rfl
  have e1 : Hid (beganJ j = false) := Lib.hid (by unfold beganJ; rw [if_neg (by omega), if_neg (by omega), if_pos (by omega)]; exact hbe)
  clear hb hbe hs
  have q0 := BX.out.c0
  have q1 := BX.out.c1
  have q2 := BX.out.c2
  have q3 := BX.out.c3
  have q4 := BX.out.c4
  have q5 := BX.out.c5
  have q6 := BX.out.c6
  have q7 := BX.out.c7
  have q8 := BX.out.c8
  have q9 := BX.out.c9
  have q10 := BX.out.c10
  have q11 := BX.out.c11
  have q12 := BX.out.c12
  go_enter Try.func50, Try.ntmps50
  go_wp2_with fail
  rw [← hW]
  clear hW
  refine (whenRight_b j.frm _ _ TB.out).mono ?_
  rintro e wz ⟨rfl, rfl⟩
  go_wp2
  go_ret
  exact ⟨ret_bl e1.out, HB.out⟩
set_option maxRecDepth 100000 in
set_option maxHeartbeats 8000000 in
theorem began_10 (A : Option Addr) (m c : Nat) (j : Jb) (w : World) (hb : timeB j.frm = false) (hs : j.state = 3)  : Calls Try.prog 50 #[.agg #[.int .i64 j.id, .int .i64 j.spec.nodes, .int .i64 j.spec.cores, .int .i64 j.spec.gpus, .string j.spec.tag, .bool j.spec.whole, .int .i64 j.spec.long, .int .i64 j.spec.prio, .slice A m c, .int .i64 j.state, .int .i64 j.came, .int .i64 j.frm, .int .i64 j.to]] w fun e w' => e = .returned (.bool (beganJ j)) ∧ Below w.heap.size w w' := by
  obtain ⟨W, hW⟩ : ∃ W, W = w.alloc (jO j A m c) := ⟨_, rfl⟩
  have BX : Hid (BoxJ W w.heap.size j A m c) := Lib.hid (by rw [hW]; exact boxJ_new w j A m c)
  have HB : Hid (Below w.heap.size w W) := Lib.hid (by rw [hW]; exact (Below.refl _ _).alloc (Nat.le_refl _) _)
  unfold jO at hW
  have TB := Lib.hid hb
  have hbe : behindJ j = false := by unfold behindJ; rw [hb]; rfl
  have s0 : (j.state == 0) = false := by rw [hs]; rfl
  have s1 : (j.state == 1) = false := by rw [hs]; rfl
  have s2 : (j.state == 2) = false := by rw [hs]; rfl
  have s3 : (j.state == 3) = true := by rw [hs]; rfl
  have s4 : (j.state == 4) = false := by rw [hs]; rfl
  have s5 : (j.state == 5) = false := by rw [hs]; rfl
  have s6 : (j.state == 6) = false := by rw [hs]; rfl
  have e1 : Hid (beganJ j = false) := Lib.hid (by unfold beganJ; rw [if_neg (by omega), if_neg (by omega), if_pos (by omega)]; exact hbe)
  clear hb hbe hs
  have q0 := BX.out.c0
  have q1 := BX.out.c1
  have q2 := BX.out.c2
  have q3 := BX.out.c3
  have q4 := BX.out.c4
  have q5 := BX.out.c5
  have q6 := BX.out.c6
  have q7 := BX.out.c7
  have q8 := BX.out.c8
  have q9 := BX.out.c9
  have q10 := BX.out.c10
  have q11 := BX.out.c11
  have q12 := BX.out.c12
  go_enter Try.func50, Try.ntmps50
  go_wp2_with fail
  rw [← hW]
  clear hW
  refine (whenRight_b j.frm _ _ TB.out).mono ?_
  rintro e wz ⟨rfl, rfl⟩
  go_wp2
  go_ret
  exact ⟨ret_bl e1.out, HB.out⟩
set_option maxRecDepth 100000 in
set_option maxHeartbeats 8000000 in
theorem began_11 (A : Option Addr) (m c : Nat) (j : Jb) (w : World) (hb : timeB j.frm = false) (hs : j.state = 4)  : Calls Try.prog 50 #[.agg #[.int .i64 j.id, .int .i64 j.spec.nodes, .int .i64 j.spec.cores, .int .i64 j.spec.gpus, .string j.spec.tag, .bool j.spec.whole, .int .i64 j.spec.long, .int .i64 j.spec.prio, .slice A m c, .int .i64 j.state, .int .i64 j.came, .int .i64 j.frm, .int .i64 j.to]] w fun e w' => e = .returned (.bool (beganJ j)) ∧ Below w.heap.size w w' := by
  obtain ⟨W, hW⟩ : ∃ W, W = w.alloc (jO j A m c) := ⟨_, rfl⟩
  have BX : Hid (BoxJ W w.heap.size j A m c) := Lib.hid (by rw [hW]; exact boxJ_new w j A m c)
  have HB : Hid (Below w.heap.size w W) := Lib.hid (by rw [hW]; exact (Below.refl _ _).alloc (Nat.le_refl _) _)
  unfold jO at hW
  have TB := Lib.hid hb
  have hbe : behindJ j = false := by unfold behindJ; rw [hb]; rfl
  have s0 : (j.state == 0) = false := by rw [hs]; rfl
  have s1 : (j.state == 1) = false := by rw [hs]; rfl
  have s2 : (j.state == 2) = false := by rw [hs]; rfl
  have s3 : (j.state == 3) = false := by rw [hs]; rfl
  have s4 : (j.state == 4) = true := by rw [hs]; rfl
  have s5 : (j.state == 5) = false := by rw [hs]; rfl
  have s6 : (j.state == 6) = false := by rw [hs]; rfl
  have e1 : Hid (beganJ j = false) := Lib.hid (by unfold beganJ; rw [if_neg (by omega), if_neg (by omega), if_pos (by omega)]; exact hbe)
  clear hb hbe hs
  have q0 := BX.out.c0
  have q1 := BX.out.c1
  have q2 := BX.out.c2
  have q3 := BX.out.c3
  have q4 := BX.out.c4
  have q5 := BX.out.c5
  have q6 := BX.out.c6
  have q7 := BX.out.c7
  have q8 := BX.out.c8
  have q9 := BX.out.c9
  have q10 := BX.out.c10
  have q11 := BX.out.c11
  have q12 := BX.out.c12
  go_enter Try.func50, Try.ntmps50
  go_wp2_with fail
  rw [← hW]
  clear hW
  refine (whenRight_b j.frm _ _ TB.out).mono ?_
  rintro e wz ⟨rfl, rfl⟩
  go_wp2
  go_ret
  exact ⟨ret_bl e1.out, HB.out⟩
set_option maxRecDepth 100000 in
set_option maxHeartbeats 8000000 in
theorem began_12 (A : Option Addr) (m c : Nat) (j : Jb) (w : World) (hb : timeB j.frm = false) (hs : ¬ (0 ≤ j.state ∧ j.state ≤ 6))  : Calls Try.prog 50 #[.agg #[.int .i64 j.id, .int .i64 j.spec.nodes, .int .i64 j.spec.cores, .int .i64 j.spec.gpus, .string j.spec.tag, .bool j.spec.whole, .int .i64 j.spec.long, .int .i64 j.spec.prio, .slice A m c, .int .i64 j.state, .int .i64 j.came, .int .i64 j.frm, .int .i64 j.to]] w fun e w' => e = .returned (.bool (beganJ j)) ∧ Below w.heap.size w w' := by
  obtain ⟨W, hW⟩ : ∃ W, W = w.alloc (jO j A m c) := ⟨_, rfl⟩
  have BX : Hid (BoxJ W w.heap.size j A m c) := Lib.hid (by rw [hW]; exact boxJ_new w j A m c)
  have HB : Hid (Below w.heap.size w W) := Lib.hid (by rw [hW]; exact (Below.refl _ _).alloc (Nat.le_refl _) _)
  unfold jO at hW
  have TB := Lib.hid hb
  have hbe : behindJ j = false := by unfold behindJ; rw [hb]; rfl
  have s0 : (j.state == 0) = false := by rw [beq_eq_false_iff_ne]; omega
  have s1 : (j.state == 1) = false := by rw [beq_eq_false_iff_ne]; omega
  have s2 : (j.state == 2) = false := by rw [beq_eq_false_iff_ne]; omega
  have s3 : (j.state == 3) = false := by rw [beq_eq_false_iff_ne]; omega
  have s4 : (j.state == 4) = false := by rw [beq_eq_false_iff_ne]; omega
  have s5 : (j.state == 5) = false := by rw [beq_eq_false_iff_ne]; omega
  have s6 : (j.state == 6) = false := by rw [beq_eq_false_iff_ne]; omega
  have e1 : Hid (beganJ j = false) := Lib.hid (by unfold beganJ; rw [if_neg (by omega), if_neg (by omega), if_neg (by omega)])
  clear hb hbe hs
  have q0 := BX.out.c0
  have q1 := BX.out.c1
  have q2 := BX.out.c2
  have q3 := BX.out.c3
  have q4 := BX.out.c4
  have q5 := BX.out.c5
  have q6 := BX.out.c6
  have q7 := BX.out.c7
  have q8 := BX.out.c8
  have q9 := BX.out.c9
  have q10 := BX.out.c10
  have q11 := BX.out.c11
  have q12 := BX.out.c12
  go_enter Try.func50, Try.ntmps50
  go_wp2_with fail
  rw [← hW]
  clear hW
  refine (whenRight_b j.frm _ _ TB.out).mono ?_
  rintro e wz ⟨rfl, rfl⟩
  go_wp2
  go_ret
  exact ⟨ret_bl e1.out, HB.out⟩
set_option maxRecDepth 100000 in
set_option maxHeartbeats 8000000 in
theorem began_13 (A : Option Addr) (m c : Nat) (j : Jb) (w : World) (hb : timeB j.frm = true) (hc : ¬ j.came ≤ j.frm) (hs : j.state = 0) (hz : j.frm = 0) : Calls Try.prog 50 #[.agg #[.int .i64 j.id, .int .i64 j.spec.nodes, .int .i64 j.spec.cores, .int .i64 j.spec.gpus, .string j.spec.tag, .bool j.spec.whole, .int .i64 j.spec.long, .int .i64 j.spec.prio, .slice A m c, .int .i64 j.state, .int .i64 j.came, .int .i64 j.frm, .int .i64 j.to]] w fun e w' => e = .returned (.bool (beganJ j)) ∧ Below w.heap.size w w' := by
  obtain ⟨W, hW⟩ : ∃ W, W = w.alloc (jO j A m c) := ⟨_, rfl⟩
  have BX : Hid (BoxJ W w.heap.size j A m c) := Lib.hid (by rw [hW]; exact boxJ_new w j A m c)
  have HB : Hid (Below w.heap.size w W) := Lib.hid (by rw [hW]; exact (Below.refl _ _).alloc (Nat.le_refl _) _)
  unfold jO at hW
  have TB := Lib.hid hb
  have dc : decide (j.came ≤ j.frm) = false := decide_eq_false hc
  have hbe : behindJ j = false := by unfold behindJ; rw [hb, decide_eq_false hc]; rfl
  have s0 : (j.state == 0) = true := by rw [hs]; rfl
  have s1 : (j.state == 1) = false := by rw [hs]; rfl
  have s2 : (j.state == 2) = false := by rw [hs]; rfl
  have s3 : (j.state == 3) = false := by rw [hs]; rfl
  have s4 : (j.state == 4) = false := by rw [hs]; rfl
  have s5 : (j.state == 5) = false := by rw [hs]; rfl
  have s6 : (j.state == 6) = false := by rw [hs]; rfl
  have z0 : (j.frm == 0) = true := by rw [beq_iff_eq]; exact hz
  have e1 : Hid (beganJ j = true) := Lib.hid (by unfold beganJ; rw [if_pos (by omega)]; exact decide_eq_true hz)
  clear hb hbe hc hs hz
  have q0 := BX.out.c0
  have q1 := BX.out.c1
  have q2 := BX.out.c2
  have q3 := BX.out.c3
  have q4 := BX.out.c4
  have q5 := BX.out.c5
  have q6 := BX.out.c6
  have q7 := BX.out.c7
  have q8 := BX.out.c8
  have q9 := BX.out.c9
  have q10 := BX.out.c10
  have q11 := BX.out.c11
  have q12 := BX.out.c12
  go_enter Try.func50, Try.ntmps50
  go_wp2_with fail
  rw [← hW]
  clear hW
  refine (whenRight_b j.frm _ _ TB.out).mono ?_
  rintro e wz ⟨rfl, rfl⟩
  go_wp2
  go_ret
  exact ⟨ret_bl e1.out, HB.out⟩
set_option maxRecDepth 100000 in
set_option maxHeartbeats 8000000 in
theorem began_14 (A : Option Addr) (m c : Nat) (j : Jb) (w : World) (hb : timeB j.frm = true) (hc : ¬ j.came ≤ j.frm) (hs : j.state = 0) (hz : ¬ j.frm = 0) : Calls Try.prog 50 #[.agg #[.int .i64 j.id, .int .i64 j.spec.nodes, .int .i64 j.spec.cores, .int .i64 j.spec.gpus, .string j.spec.tag, .bool j.spec.whole, .int .i64 j.spec.long, .int .i64 j.spec.prio, .slice A m c, .int .i64 j.state, .int .i64 j.came, .int .i64 j.frm, .int .i64 j.to]] w fun e w' => e = .returned (.bool (beganJ j)) ∧ Below w.heap.size w w' := by
  obtain ⟨W, hW⟩ : ∃ W, W = w.alloc (jO j A m c) := ⟨_, rfl⟩
  have BX : Hid (BoxJ W w.heap.size j A m c) := Lib.hid (by rw [hW]; exact boxJ_new w j A m c)
  have HB : Hid (Below w.heap.size w W) := Lib.hid (by rw [hW]; exact (Below.refl _ _).alloc (Nat.le_refl _) _)
  unfold jO at hW
  have TB := Lib.hid hb
  have dc : decide (j.came ≤ j.frm) = false := decide_eq_false hc
  have hbe : behindJ j = false := by unfold behindJ; rw [hb, decide_eq_false hc]; rfl
  have s0 : (j.state == 0) = true := by rw [hs]; rfl
  have s1 : (j.state == 1) = false := by rw [hs]; rfl
  have s2 : (j.state == 2) = false := by rw [hs]; rfl
  have s3 : (j.state == 3) = false := by rw [hs]; rfl
  have s4 : (j.state == 4) = false := by rw [hs]; rfl
  have s5 : (j.state == 5) = false := by rw [hs]; rfl
  have s6 : (j.state == 6) = false := by rw [hs]; rfl
  have z0 : (j.frm == 0) = false := by rw [beq_eq_false_iff_ne]; exact hz
  have e1 : Hid (beganJ j = false) := Lib.hid (by unfold beganJ; rw [if_pos (by omega)]; exact decide_eq_false hz)
  clear hb hbe hc hs hz
  have q0 := BX.out.c0
  have q1 := BX.out.c1
  have q2 := BX.out.c2
  have q3 := BX.out.c3
  have q4 := BX.out.c4
  have q5 := BX.out.c5
  have q6 := BX.out.c6
  have q7 := BX.out.c7
  have q8 := BX.out.c8
  have q9 := BX.out.c9
  have q10 := BX.out.c10
  have q11 := BX.out.c11
  have q12 := BX.out.c12
  go_enter Try.func50, Try.ntmps50
  go_wp2_with fail
  rw [← hW]
  clear hW
  refine (whenRight_b j.frm _ _ TB.out).mono ?_
  rintro e wz ⟨rfl, rfl⟩
  go_wp2
  go_ret
  exact ⟨ret_bl e1.out, HB.out⟩
set_option maxRecDepth 100000 in
set_option maxHeartbeats 8000000 in
theorem began_15 (A : Option Addr) (m c : Nat) (j : Jb) (w : World) (hb : timeB j.frm = true) (hc : ¬ j.came ≤ j.frm) (hs : j.state = 1) (hz : j.frm = 0) : Calls Try.prog 50 #[.agg #[.int .i64 j.id, .int .i64 j.spec.nodes, .int .i64 j.spec.cores, .int .i64 j.spec.gpus, .string j.spec.tag, .bool j.spec.whole, .int .i64 j.spec.long, .int .i64 j.spec.prio, .slice A m c, .int .i64 j.state, .int .i64 j.came, .int .i64 j.frm, .int .i64 j.to]] w fun e w' => e = .returned (.bool (beganJ j)) ∧ Below w.heap.size w w' := by
  obtain ⟨W, hW⟩ : ∃ W, W = w.alloc (jO j A m c) := ⟨_, rfl⟩
  have BX : Hid (BoxJ W w.heap.size j A m c) := Lib.hid (by rw [hW]; exact boxJ_new w j A m c)
  have HB : Hid (Below w.heap.size w W) := Lib.hid (by rw [hW]; exact (Below.refl _ _).alloc (Nat.le_refl _) _)
  unfold jO at hW
  have TB := Lib.hid hb
  have dc : decide (j.came ≤ j.frm) = false := decide_eq_false hc
  have hbe : behindJ j = false := by unfold behindJ; rw [hb, decide_eq_false hc]; rfl
  have s0 : (j.state == 0) = false := by rw [hs]; rfl
  have s1 : (j.state == 1) = true := by rw [hs]; rfl
  have s2 : (j.state == 2) = false := by rw [hs]; rfl
  have s3 : (j.state == 3) = false := by rw [hs]; rfl
  have s4 : (j.state == 4) = false := by rw [hs]; rfl
  have s5 : (j.state == 5) = false := by rw [hs]; rfl
  have s6 : (j.state == 6) = false := by rw [hs]; rfl
  have z0 : (j.frm == 0) = true := by rw [beq_iff_eq]; exact hz
  have e1 : Hid (beganJ j = true) := Lib.hid (by unfold beganJ; rw [if_pos (by omega)]; exact decide_eq_true hz)
  clear hb hbe hc hs hz
  have q0 := BX.out.c0
  have q1 := BX.out.c1
  have q2 := BX.out.c2
  have q3 := BX.out.c3
  have q4 := BX.out.c4
  have q5 := BX.out.c5
  have q6 := BX.out.c6
  have q7 := BX.out.c7
  have q8 := BX.out.c8
  have q9 := BX.out.c9
  have q10 := BX.out.c10
  have q11 := BX.out.c11
  have q12 := BX.out.c12
  go_enter Try.func50, Try.ntmps50
  go_wp2_with fail
  rw [← hW]
  clear hW
  refine (whenRight_b j.frm _ _ TB.out).mono ?_
  rintro e wz ⟨rfl, rfl⟩
  go_wp2
  go_ret
  exact ⟨ret_bl e1.out, HB.out⟩
set_option maxRecDepth 100000 in
set_option maxHeartbeats 8000000 in
theorem began_16 (A : Option Addr) (m c : Nat) (j : Jb) (w : World) (hb : timeB j.frm = true) (hc : ¬ j.came ≤ j.frm) (hs : j.state = 1) (hz : ¬ j.frm = 0) : Calls Try.prog 50 #[.agg #[.int .i64 j.id, .int .i64 j.spec.nodes, .int .i64 j.spec.cores, .int .i64 j.spec.gpus, .string j.spec.tag, .bool j.spec.whole, .int .i64 j.spec.long, .int .i64 j.spec.prio, .slice A m c, .int .i64 j.state, .int .i64 j.came, .int .i64 j.frm, .int .i64 j.to]] w fun e w' => e = .returned (.bool (beganJ j)) ∧ Below w.heap.size w w' := by
  obtain ⟨W, hW⟩ : ∃ W, W = w.alloc (jO j A m c) := ⟨_, rfl⟩
  have BX : Hid (BoxJ W w.heap.size j A m c) := Lib.hid (by rw [hW]; exact boxJ_new w j A m c)
  have HB : Hid (Below w.heap.size w W) := Lib.hid (by rw [hW]; exact (Below.refl _ _).alloc (Nat.le_refl _) _)
  unfold jO at hW
  have TB := Lib.hid hb
  have dc : decide (j.came ≤ j.frm) = false := decide_eq_false hc
  have hbe : behindJ j = false := by unfold behindJ; rw [hb, decide_eq_false hc]; rfl
  have s0 : (j.state == 0) = false := by rw [hs]; rfl
  have s1 : (j.state == 1) = true := by rw [hs]; rfl
  have s2 : (j.state == 2) = false := by rw [hs]; rfl
  have s3 : (j.state == 3) = false := by rw [hs]; rfl
  have s4 : (j.state == 4) = false := by rw [hs]; rfl
  have s5 : (j.state == 5) = false := by rw [hs]; rfl
  have s6 : (j.state == 6) = false := by rw [hs]; rfl
  have z0 : (j.frm == 0) = false := by rw [beq_eq_false_iff_ne]; exact hz
  have e1 : Hid (beganJ j = false) := Lib.hid (by unfold beganJ; rw [if_pos (by omega)]; exact decide_eq_false hz)
  clear hb hbe hc hs hz
  have q0 := BX.out.c0
  have q1 := BX.out.c1
  have q2 := BX.out.c2
  have q3 := BX.out.c3
  have q4 := BX.out.c4
  have q5 := BX.out.c5
  have q6 := BX.out.c6
  have q7 := BX.out.c7
  have q8 := BX.out.c8
  have q9 := BX.out.c9
  have q10 := BX.out.c10
  have q11 := BX.out.c11
  have q12 := BX.out.c12
  go_enter Try.func50, Try.ntmps50
  go_wp2_with fail
  rw [← hW]
  clear hW
  refine (whenRight_b j.frm _ _ TB.out).mono ?_
  rintro e wz ⟨rfl, rfl⟩
  go_wp2
  go_ret
  exact ⟨ret_bl e1.out, HB.out⟩
set_option maxRecDepth 100000 in
set_option maxHeartbeats 8000000 in
theorem began_17 (A : Option Addr) (m c : Nat) (j : Jb) (w : World) (hb : timeB j.frm = true) (hc : ¬ j.came ≤ j.frm) (hs : j.state = 6) (hz : j.frm = 0) : Calls Try.prog 50 #[.agg #[.int .i64 j.id, .int .i64 j.spec.nodes, .int .i64 j.spec.cores, .int .i64 j.spec.gpus, .string j.spec.tag, .bool j.spec.whole, .int .i64 j.spec.long, .int .i64 j.spec.prio, .slice A m c, .int .i64 j.state, .int .i64 j.came, .int .i64 j.frm, .int .i64 j.to]] w fun e w' => e = .returned (.bool (beganJ j)) ∧ Below w.heap.size w w' := by
  obtain ⟨W, hW⟩ : ∃ W, W = w.alloc (jO j A m c) := ⟨_, rfl⟩
  have BX : Hid (BoxJ W w.heap.size j A m c) := Lib.hid (by rw [hW]; exact boxJ_new w j A m c)
  have HB : Hid (Below w.heap.size w W) := Lib.hid (by rw [hW]; exact (Below.refl _ _).alloc (Nat.le_refl _) _)
  unfold jO at hW
  have TB := Lib.hid hb
  have dc : decide (j.came ≤ j.frm) = false := decide_eq_false hc
  have hbe : behindJ j = false := by unfold behindJ; rw [hb, decide_eq_false hc]; rfl
  have s0 : (j.state == 0) = false := by rw [hs]; rfl
  have s1 : (j.state == 1) = false := by rw [hs]; rfl
  have s2 : (j.state == 2) = false := by rw [hs]; rfl
  have s3 : (j.state == 3) = false := by rw [hs]; rfl
  have s4 : (j.state == 4) = false := by rw [hs]; rfl
  have s5 : (j.state == 5) = false := by rw [hs]; rfl
  have s6 : (j.state == 6) = true := by rw [hs]; rfl
  have z0 : (j.frm == 0) = true := by rw [beq_iff_eq]; exact hz
  have e1 : Hid (beganJ j = true) := Lib.hid (by unfold beganJ; rw [if_pos (by omega)]; exact decide_eq_true hz)
  clear hb hbe hc hs hz
  have q0 := BX.out.c0
  have q1 := BX.out.c1
  have q2 := BX.out.c2
  have q3 := BX.out.c3
  have q4 := BX.out.c4
  have q5 := BX.out.c5
  have q6 := BX.out.c6
  have q7 := BX.out.c7
  have q8 := BX.out.c8
  have q9 := BX.out.c9
  have q10 := BX.out.c10
  have q11 := BX.out.c11
  have q12 := BX.out.c12
  go_enter Try.func50, Try.ntmps50
  go_wp2_with fail
  rw [← hW]
  clear hW
  refine (whenRight_b j.frm _ _ TB.out).mono ?_
  rintro e wz ⟨rfl, rfl⟩
  go_wp2
  go_ret
  exact ⟨ret_bl e1.out, HB.out⟩
set_option maxRecDepth 100000 in
set_option maxHeartbeats 8000000 in
theorem began_18 (A : Option Addr) (m c : Nat) (j : Jb) (w : World) (hb : timeB j.frm = true) (hc : ¬ j.came ≤ j.frm) (hs : j.state = 6) (hz : ¬ j.frm = 0) : Calls Try.prog 50 #[.agg #[.int .i64 j.id, .int .i64 j.spec.nodes, .int .i64 j.spec.cores, .int .i64 j.spec.gpus, .string j.spec.tag, .bool j.spec.whole, .int .i64 j.spec.long, .int .i64 j.spec.prio, .slice A m c, .int .i64 j.state, .int .i64 j.came, .int .i64 j.frm, .int .i64 j.to]] w fun e w' => e = .returned (.bool (beganJ j)) ∧ Below w.heap.size w w' := by
  obtain ⟨W, hW⟩ : ∃ W, W = w.alloc (jO j A m c) := ⟨_, rfl⟩
  have BX : Hid (BoxJ W w.heap.size j A m c) := Lib.hid (by rw [hW]; exact boxJ_new w j A m c)
  have HB : Hid (Below w.heap.size w W) := Lib.hid (by rw [hW]; exact (Below.refl _ _).alloc (Nat.le_refl _) _)
  unfold jO at hW
  have TB := Lib.hid hb
  have dc : decide (j.came ≤ j.frm) = false := decide_eq_false hc
  have hbe : behindJ j = false := by unfold behindJ; rw [hb, decide_eq_false hc]; rfl
  have s0 : (j.state == 0) = false := by rw [hs]; rfl
  have s1 : (j.state == 1) = false := by rw [hs]; rfl
  have s2 : (j.state == 2) = false := by rw [hs]; rfl
  have s3 : (j.state == 3) = false := by rw [hs]; rfl
  have s4 : (j.state == 4) = false := by rw [hs]; rfl
  have s5 : (j.state == 5) = false := by rw [hs]; rfl
  have s6 : (j.state == 6) = true := by rw [hs]; rfl
  have z0 : (j.frm == 0) = false := by rw [beq_eq_false_iff_ne]; exact hz
  have e1 : Hid (beganJ j = false) := Lib.hid (by unfold beganJ; rw [if_pos (by omega)]; exact decide_eq_false hz)
  clear hb hbe hc hs hz
  have q0 := BX.out.c0
  have q1 := BX.out.c1
  have q2 := BX.out.c2
  have q3 := BX.out.c3
  have q4 := BX.out.c4
  have q5 := BX.out.c5
  have q6 := BX.out.c6
  have q7 := BX.out.c7
  have q8 := BX.out.c8
  have q9 := BX.out.c9
  have q10 := BX.out.c10
  have q11 := BX.out.c11
  have q12 := BX.out.c12
  go_enter Try.func50, Try.ntmps50
  go_wp2_with fail
  rw [← hW]
  clear hW
  refine (whenRight_b j.frm _ _ TB.out).mono ?_
  rintro e wz ⟨rfl, rfl⟩
  go_wp2
  go_ret
  exact ⟨ret_bl e1.out, HB.out⟩
set_option maxRecDepth 100000 in
set_option maxHeartbeats 8000000 in
theorem began_19 (A : Option Addr) (m c : Nat) (j : Jb) (w : World) (hb : timeB j.frm = true) (hc : ¬ j.came ≤ j.frm) (hs : j.state = 5) (hz : j.frm = 0) : Calls Try.prog 50 #[.agg #[.int .i64 j.id, .int .i64 j.spec.nodes, .int .i64 j.spec.cores, .int .i64 j.spec.gpus, .string j.spec.tag, .bool j.spec.whole, .int .i64 j.spec.long, .int .i64 j.spec.prio, .slice A m c, .int .i64 j.state, .int .i64 j.came, .int .i64 j.frm, .int .i64 j.to]] w fun e w' => e = .returned (.bool (beganJ j)) ∧ Below w.heap.size w w' := by
  obtain ⟨W, hW⟩ : ∃ W, W = w.alloc (jO j A m c) := ⟨_, rfl⟩
  have BX : Hid (BoxJ W w.heap.size j A m c) := Lib.hid (by rw [hW]; exact boxJ_new w j A m c)
  have HB : Hid (Below w.heap.size w W) := Lib.hid (by rw [hW]; exact (Below.refl _ _).alloc (Nat.le_refl _) _)
  unfold jO at hW
  have TB := Lib.hid hb
  have dc : decide (j.came ≤ j.frm) = false := decide_eq_false hc
  have hbe : behindJ j = false := by unfold behindJ; rw [hb, decide_eq_false hc]; rfl
  have s0 : (j.state == 0) = false := by rw [hs]; rfl
  have s1 : (j.state == 1) = false := by rw [hs]; rfl
  have s2 : (j.state == 2) = false := by rw [hs]; rfl
  have s3 : (j.state == 3) = false := by rw [hs]; rfl
  have s4 : (j.state == 4) = false := by rw [hs]; rfl
  have s5 : (j.state == 5) = true := by rw [hs]; rfl
  have s6 : (j.state == 6) = false := by rw [hs]; rfl
  have z0 : (j.frm == 0) = true := by rw [beq_iff_eq]; exact hz
  have e1 : Hid (beganJ j = true) := Lib.hid (by unfold beganJ; rw [if_neg (by omega), if_pos hs, hbe, decide_eq_true hz]; rfl)
  clear hb hbe hc hs hz
  have q0 := BX.out.c0
  have q1 := BX.out.c1
  have q2 := BX.out.c2
  have q3 := BX.out.c3
  have q4 := BX.out.c4
  have q5 := BX.out.c5
  have q6 := BX.out.c6
  have q7 := BX.out.c7
  have q8 := BX.out.c8
  have q9 := BX.out.c9
  have q10 := BX.out.c10
  have q11 := BX.out.c11
  have q12 := BX.out.c12
  go_enter Try.func50, Try.ntmps50
  go_wp2_with fail
  rw [← hW]
  clear hW
  refine (whenRight_b j.frm _ _ TB.out).mono ?_
  rintro e wz ⟨rfl, rfl⟩
  go_wp2
  go_ret
  exact ⟨ret_bl e1.out, HB.out⟩
set_option maxRecDepth 100000 in
set_option maxHeartbeats 8000000 in
theorem began_20 (A : Option Addr) (m c : Nat) (j : Jb) (w : World) (hb : timeB j.frm = true) (hc : ¬ j.came ≤ j.frm) (hs : j.state = 5) (hz : ¬ j.frm = 0) : Calls Try.prog 50 #[.agg #[.int .i64 j.id, .int .i64 j.spec.nodes, .int .i64 j.spec.cores, .int .i64 j.spec.gpus, .string j.spec.tag, .bool j.spec.whole, .int .i64 j.spec.long, .int .i64 j.spec.prio, .slice A m c, .int .i64 j.state, .int .i64 j.came, .int .i64 j.frm, .int .i64 j.to]] w fun e w' => e = .returned (.bool (beganJ j)) ∧ Below w.heap.size w w' := by
  obtain ⟨W, hW⟩ : ∃ W, W = w.alloc (jO j A m c) := ⟨_, rfl⟩
  have BX : Hid (BoxJ W w.heap.size j A m c) := Lib.hid (by rw [hW]; exact boxJ_new w j A m c)
  have HB : Hid (Below w.heap.size w W) := Lib.hid (by rw [hW]; exact (Below.refl _ _).alloc (Nat.le_refl _) _)
  unfold jO at hW
  have TB := Lib.hid hb
  have dc : decide (j.came ≤ j.frm) = false := decide_eq_false hc
  have hbe : behindJ j = false := by unfold behindJ; rw [hb, decide_eq_false hc]; rfl
  have s0 : (j.state == 0) = false := by rw [hs]; rfl
  have s1 : (j.state == 1) = false := by rw [hs]; rfl
  have s2 : (j.state == 2) = false := by rw [hs]; rfl
  have s3 : (j.state == 3) = false := by rw [hs]; rfl
  have s4 : (j.state == 4) = false := by rw [hs]; rfl
  have s5 : (j.state == 5) = true := by rw [hs]; rfl
  have s6 : (j.state == 6) = false := by rw [hs]; rfl
  have z0 : (j.frm == 0) = false := by rw [beq_eq_false_iff_ne]; exact hz
  have e1 : Hid (beganJ j = false) := Lib.hid (by unfold beganJ; rw [if_neg (by omega), if_pos hs, hbe, decide_eq_false hz]; rfl)
  clear hb hbe hc hs hz
  have q0 := BX.out.c0
  have q1 := BX.out.c1
  have q2 := BX.out.c2
  have q3 := BX.out.c3
  have q4 := BX.out.c4
  have q5 := BX.out.c5
  have q6 := BX.out.c6
  have q7 := BX.out.c7
  have q8 := BX.out.c8
  have q9 := BX.out.c9
  have q10 := BX.out.c10
  have q11 := BX.out.c11
  have q12 := BX.out.c12
  go_enter Try.func50, Try.ntmps50
  go_wp2_with fail
  rw [← hW]
  clear hW
  refine (whenRight_b j.frm _ _ TB.out).mono ?_
  rintro e wz ⟨rfl, rfl⟩
  go_wp2
  go_ret
  exact ⟨ret_bl e1.out, HB.out⟩
set_option maxRecDepth 100000 in
set_option maxHeartbeats 8000000 in
theorem began_21 (A : Option Addr) (m c : Nat) (j : Jb) (w : World) (hb : timeB j.frm = true) (hc : ¬ j.came ≤ j.frm) (hs : j.state = 2)  : Calls Try.prog 50 #[.agg #[.int .i64 j.id, .int .i64 j.spec.nodes, .int .i64 j.spec.cores, .int .i64 j.spec.gpus, .string j.spec.tag, .bool j.spec.whole, .int .i64 j.spec.long, .int .i64 j.spec.prio, .slice A m c, .int .i64 j.state, .int .i64 j.came, .int .i64 j.frm, .int .i64 j.to]] w fun e w' => e = .returned (.bool (beganJ j)) ∧ Below w.heap.size w w' := by
  obtain ⟨W, hW⟩ : ∃ W, W = w.alloc (jO j A m c) := ⟨_, rfl⟩
  have BX : Hid (BoxJ W w.heap.size j A m c) := Lib.hid (by rw [hW]; exact boxJ_new w j A m c)
  have HB : Hid (Below w.heap.size w W) := Lib.hid (by rw [hW]; exact (Below.refl _ _).alloc (Nat.le_refl _) _)
  unfold jO at hW
  have TB := Lib.hid hb
  have dc : decide (j.came ≤ j.frm) = false := decide_eq_false hc
  have hbe : behindJ j = false := by unfold behindJ; rw [hb, decide_eq_false hc]; rfl
  have s0 : (j.state == 0) = false := by rw [hs]; rfl
  have s1 : (j.state == 1) = false := by rw [hs]; rfl
  have s2 : (j.state == 2) = true := by rw [hs]; rfl
  have s3 : (j.state == 3) = false := by rw [hs]; rfl
  have s4 : (j.state == 4) = false := by rw [hs]; rfl
  have s5 : (j.state == 5) = false := by rw [hs]; rfl
  have s6 : (j.state == 6) = false := by rw [hs]; rfl
  have e1 : Hid (beganJ j = false) := Lib.hid (by unfold beganJ; rw [if_neg (by omega), if_neg (by omega), if_pos (by omega)]; exact hbe)
  clear hb hbe hc hs
  have q0 := BX.out.c0
  have q1 := BX.out.c1
  have q2 := BX.out.c2
  have q3 := BX.out.c3
  have q4 := BX.out.c4
  have q5 := BX.out.c5
  have q6 := BX.out.c6
  have q7 := BX.out.c7
  have q8 := BX.out.c8
  have q9 := BX.out.c9
  have q10 := BX.out.c10
  have q11 := BX.out.c11
  have q12 := BX.out.c12
  go_enter Try.func50, Try.ntmps50
  go_wp2_with fail
  rw [← hW]
  clear hW
  refine (whenRight_b j.frm _ _ TB.out).mono ?_
  rintro e wz ⟨rfl, rfl⟩
  go_wp2
  go_ret
  exact ⟨ret_bl e1.out, HB.out⟩
set_option maxRecDepth 100000 in
set_option maxHeartbeats 8000000 in
theorem began_22 (A : Option Addr) (m c : Nat) (j : Jb) (w : World) (hb : timeB j.frm = true) (hc : ¬ j.came ≤ j.frm) (hs : j.state = 3)  : Calls Try.prog 50 #[.agg #[.int .i64 j.id, .int .i64 j.spec.nodes, .int .i64 j.spec.cores, .int .i64 j.spec.gpus, .string j.spec.tag, .bool j.spec.whole, .int .i64 j.spec.long, .int .i64 j.spec.prio, .slice A m c, .int .i64 j.state, .int .i64 j.came, .int .i64 j.frm, .int .i64 j.to]] w fun e w' => e = .returned (.bool (beganJ j)) ∧ Below w.heap.size w w' := by
  obtain ⟨W, hW⟩ : ∃ W, W = w.alloc (jO j A m c) := ⟨_, rfl⟩
  have BX : Hid (BoxJ W w.heap.size j A m c) := Lib.hid (by rw [hW]; exact boxJ_new w j A m c)
  have HB : Hid (Below w.heap.size w W) := Lib.hid (by rw [hW]; exact (Below.refl _ _).alloc (Nat.le_refl _) _)
  unfold jO at hW
  have TB := Lib.hid hb
  have dc : decide (j.came ≤ j.frm) = false := decide_eq_false hc
  have hbe : behindJ j = false := by unfold behindJ; rw [hb, decide_eq_false hc]; rfl
  have s0 : (j.state == 0) = false := by rw [hs]; rfl
  have s1 : (j.state == 1) = false := by rw [hs]; rfl
  have s2 : (j.state == 2) = false := by rw [hs]; rfl
  have s3 : (j.state == 3) = true := by rw [hs]; rfl
  have s4 : (j.state == 4) = false := by rw [hs]; rfl
  have s5 : (j.state == 5) = false := by rw [hs]; rfl
  have s6 : (j.state == 6) = false := by rw [hs]; rfl
  have e1 : Hid (beganJ j = false) := Lib.hid (by unfold beganJ; rw [if_neg (by omega), if_neg (by omega), if_pos (by omega)]; exact hbe)
  clear hb hbe hc hs
  have q0 := BX.out.c0
  have q1 := BX.out.c1
  have q2 := BX.out.c2
  have q3 := BX.out.c3
  have q4 := BX.out.c4
  have q5 := BX.out.c5
  have q6 := BX.out.c6
  have q7 := BX.out.c7
  have q8 := BX.out.c8
  have q9 := BX.out.c9
  have q10 := BX.out.c10
  have q11 := BX.out.c11
  have q12 := BX.out.c12
  go_enter Try.func50, Try.ntmps50
  go_wp2_with fail
  rw [← hW]
  clear hW
  refine (whenRight_b j.frm _ _ TB.out).mono ?_
  rintro e wz ⟨rfl, rfl⟩
  go_wp2
  go_ret
  exact ⟨ret_bl e1.out, HB.out⟩
set_option maxRecDepth 100000 in
set_option maxHeartbeats 8000000 in
theorem began_23 (A : Option Addr) (m c : Nat) (j : Jb) (w : World) (hb : timeB j.frm = true) (hc : ¬ j.came ≤ j.frm) (hs : j.state = 4)  : Calls Try.prog 50 #[.agg #[.int .i64 j.id, .int .i64 j.spec.nodes, .int .i64 j.spec.cores, .int .i64 j.spec.gpus, .string j.spec.tag, .bool j.spec.whole, .int .i64 j.spec.long, .int .i64 j.spec.prio, .slice A m c, .int .i64 j.state, .int .i64 j.came, .int .i64 j.frm, .int .i64 j.to]] w fun e w' => e = .returned (.bool (beganJ j)) ∧ Below w.heap.size w w' := by
  obtain ⟨W, hW⟩ : ∃ W, W = w.alloc (jO j A m c) := ⟨_, rfl⟩
  have BX : Hid (BoxJ W w.heap.size j A m c) := Lib.hid (by rw [hW]; exact boxJ_new w j A m c)
  have HB : Hid (Below w.heap.size w W) := Lib.hid (by rw [hW]; exact (Below.refl _ _).alloc (Nat.le_refl _) _)
  unfold jO at hW
  have TB := Lib.hid hb
  have dc : decide (j.came ≤ j.frm) = false := decide_eq_false hc
  have hbe : behindJ j = false := by unfold behindJ; rw [hb, decide_eq_false hc]; rfl
  have s0 : (j.state == 0) = false := by rw [hs]; rfl
  have s1 : (j.state == 1) = false := by rw [hs]; rfl
  have s2 : (j.state == 2) = false := by rw [hs]; rfl
  have s3 : (j.state == 3) = false := by rw [hs]; rfl
  have s4 : (j.state == 4) = true := by rw [hs]; rfl
  have s5 : (j.state == 5) = false := by rw [hs]; rfl
  have s6 : (j.state == 6) = false := by rw [hs]; rfl
  have e1 : Hid (beganJ j = false) := Lib.hid (by unfold beganJ; rw [if_neg (by omega), if_neg (by omega), if_pos (by omega)]; exact hbe)
  clear hb hbe hc hs
  have q0 := BX.out.c0
  have q1 := BX.out.c1
  have q2 := BX.out.c2
  have q3 := BX.out.c3
  have q4 := BX.out.c4
  have q5 := BX.out.c5
  have q6 := BX.out.c6
  have q7 := BX.out.c7
  have q8 := BX.out.c8
  have q9 := BX.out.c9
  have q10 := BX.out.c10
  have q11 := BX.out.c11
  have q12 := BX.out.c12
  go_enter Try.func50, Try.ntmps50
  go_wp2_with fail
  rw [← hW]
  clear hW
  refine (whenRight_b j.frm _ _ TB.out).mono ?_
  rintro e wz ⟨rfl, rfl⟩
  go_wp2
  go_ret
  exact ⟨ret_bl e1.out, HB.out⟩
set_option maxRecDepth 100000 in
set_option maxHeartbeats 8000000 in
theorem began_24 (A : Option Addr) (m c : Nat) (j : Jb) (w : World) (hb : timeB j.frm = true) (hc : ¬ j.came ≤ j.frm) (hs : ¬ (0 ≤ j.state ∧ j.state ≤ 6))  : Calls Try.prog 50 #[.agg #[.int .i64 j.id, .int .i64 j.spec.nodes, .int .i64 j.spec.cores, .int .i64 j.spec.gpus, .string j.spec.tag, .bool j.spec.whole, .int .i64 j.spec.long, .int .i64 j.spec.prio, .slice A m c, .int .i64 j.state, .int .i64 j.came, .int .i64 j.frm, .int .i64 j.to]] w fun e w' => e = .returned (.bool (beganJ j)) ∧ Below w.heap.size w w' := by
  obtain ⟨W, hW⟩ : ∃ W, W = w.alloc (jO j A m c) := ⟨_, rfl⟩
  have BX : Hid (BoxJ W w.heap.size j A m c) := Lib.hid (by rw [hW]; exact boxJ_new w j A m c)
  have HB : Hid (Below w.heap.size w W) := Lib.hid (by rw [hW]; exact (Below.refl _ _).alloc (Nat.le_refl _) _)
  unfold jO at hW
  have TB := Lib.hid hb
  have dc : decide (j.came ≤ j.frm) = false := decide_eq_false hc
  have hbe : behindJ j = false := by unfold behindJ; rw [hb, decide_eq_false hc]; rfl
  have s0 : (j.state == 0) = false := by rw [beq_eq_false_iff_ne]; omega
  have s1 : (j.state == 1) = false := by rw [beq_eq_false_iff_ne]; omega
  have s2 : (j.state == 2) = false := by rw [beq_eq_false_iff_ne]; omega
  have s3 : (j.state == 3) = false := by rw [beq_eq_false_iff_ne]; omega
  have s4 : (j.state == 4) = false := by rw [beq_eq_false_iff_ne]; omega
  have s5 : (j.state == 5) = false := by rw [beq_eq_false_iff_ne]; omega
  have s6 : (j.state == 6) = false := by rw [beq_eq_false_iff_ne]; omega
  have e1 : Hid (beganJ j = false) := Lib.hid (by unfold beganJ; rw [if_neg (by omega), if_neg (by omega), if_neg (by omega)])
  clear hb hbe hc hs
  have q0 := BX.out.c0
  have q1 := BX.out.c1
  have q2 := BX.out.c2
  have q3 := BX.out.c3
  have q4 := BX.out.c4
  have q5 := BX.out.c5
  have q6 := BX.out.c6
  have q7 := BX.out.c7
  have q8 := BX.out.c8
  have q9 := BX.out.c9
  have q10 := BX.out.c10
  have q11 := BX.out.c11
  have q12 := BX.out.c12
  go_enter Try.func50, Try.ntmps50
  go_wp2_with fail
  rw [← hW]
  clear hW
  refine (whenRight_b j.frm _ _ TB.out).mono ?_
  rintro e wz ⟨rfl, rfl⟩
  go_wp2
  go_ret
  exact ⟨ret_bl e1.out, HB.out⟩
set_option maxRecDepth 100000 in
set_option maxHeartbeats 8000000 in
theorem began_25 (A : Option Addr) (m c : Nat) (j : Jb) (w : World) (hb : timeB j.frm = true) (hc : j.came ≤ j.frm) (hs : j.state = 0) (hz : j.frm = 0) : Calls Try.prog 50 #[.agg #[.int .i64 j.id, .int .i64 j.spec.nodes, .int .i64 j.spec.cores, .int .i64 j.spec.gpus, .string j.spec.tag, .bool j.spec.whole, .int .i64 j.spec.long, .int .i64 j.spec.prio, .slice A m c, .int .i64 j.state, .int .i64 j.came, .int .i64 j.frm, .int .i64 j.to]] w fun e w' => e = .returned (.bool (beganJ j)) ∧ Below w.heap.size w w' := by
  obtain ⟨W, hW⟩ : ∃ W, W = w.alloc (jO j A m c) := ⟨_, rfl⟩
  have BX : Hid (BoxJ W w.heap.size j A m c) := Lib.hid (by rw [hW]; exact boxJ_new w j A m c)
  have HB : Hid (Below w.heap.size w W) := Lib.hid (by rw [hW]; exact (Below.refl _ _).alloc (Nat.le_refl _) _)
  unfold jO at hW
  have TB := Lib.hid hb
  have dc : decide (j.came ≤ j.frm) = true := decide_eq_true hc
  have hbe : behindJ j = true := by unfold behindJ; rw [hb, decide_eq_true hc]; rfl
  have s0 : (j.state == 0) = true := by rw [hs]; rfl
  have s1 : (j.state == 1) = false := by rw [hs]; rfl
  have s2 : (j.state == 2) = false := by rw [hs]; rfl
  have s3 : (j.state == 3) = false := by rw [hs]; rfl
  have s4 : (j.state == 4) = false := by rw [hs]; rfl
  have s5 : (j.state == 5) = false := by rw [hs]; rfl
  have s6 : (j.state == 6) = false := by rw [hs]; rfl
  have z0 : (j.frm == 0) = true := by rw [beq_iff_eq]; exact hz
  have e1 : Hid (beganJ j = true) := Lib.hid (by unfold beganJ; rw [if_pos (by omega)]; exact decide_eq_true hz)
  clear hb hbe hc hs hz
  have q0 := BX.out.c0
  have q1 := BX.out.c1
  have q2 := BX.out.c2
  have q3 := BX.out.c3
  have q4 := BX.out.c4
  have q5 := BX.out.c5
  have q6 := BX.out.c6
  have q7 := BX.out.c7
  have q8 := BX.out.c8
  have q9 := BX.out.c9
  have q10 := BX.out.c10
  have q11 := BX.out.c11
  have q12 := BX.out.c12
  go_enter Try.func50, Try.ntmps50
  go_wp2_with fail
  rw [← hW]
  clear hW
  refine (whenRight_b j.frm _ _ TB.out).mono ?_
  rintro e wz ⟨rfl, rfl⟩
  go_wp2
  go_ret
  exact ⟨ret_bl e1.out, HB.out⟩
set_option maxRecDepth 100000 in
set_option maxHeartbeats 8000000 in
theorem began_26 (A : Option Addr) (m c : Nat) (j : Jb) (w : World) (hb : timeB j.frm = true) (hc : j.came ≤ j.frm) (hs : j.state = 0) (hz : ¬ j.frm = 0) : Calls Try.prog 50 #[.agg #[.int .i64 j.id, .int .i64 j.spec.nodes, .int .i64 j.spec.cores, .int .i64 j.spec.gpus, .string j.spec.tag, .bool j.spec.whole, .int .i64 j.spec.long, .int .i64 j.spec.prio, .slice A m c, .int .i64 j.state, .int .i64 j.came, .int .i64 j.frm, .int .i64 j.to]] w fun e w' => e = .returned (.bool (beganJ j)) ∧ Below w.heap.size w w' := by
  obtain ⟨W, hW⟩ : ∃ W, W = w.alloc (jO j A m c) := ⟨_, rfl⟩
  have BX : Hid (BoxJ W w.heap.size j A m c) := Lib.hid (by rw [hW]; exact boxJ_new w j A m c)
  have HB : Hid (Below w.heap.size w W) := Lib.hid (by rw [hW]; exact (Below.refl _ _).alloc (Nat.le_refl _) _)
  unfold jO at hW
  have TB := Lib.hid hb
  have dc : decide (j.came ≤ j.frm) = true := decide_eq_true hc
  have hbe : behindJ j = true := by unfold behindJ; rw [hb, decide_eq_true hc]; rfl
  have s0 : (j.state == 0) = true := by rw [hs]; rfl
  have s1 : (j.state == 1) = false := by rw [hs]; rfl
  have s2 : (j.state == 2) = false := by rw [hs]; rfl
  have s3 : (j.state == 3) = false := by rw [hs]; rfl
  have s4 : (j.state == 4) = false := by rw [hs]; rfl
  have s5 : (j.state == 5) = false := by rw [hs]; rfl
  have s6 : (j.state == 6) = false := by rw [hs]; rfl
  have z0 : (j.frm == 0) = false := by rw [beq_eq_false_iff_ne]; exact hz
  have e1 : Hid (beganJ j = false) := Lib.hid (by unfold beganJ; rw [if_pos (by omega)]; exact decide_eq_false hz)
  clear hb hbe hc hs hz
  have q0 := BX.out.c0
  have q1 := BX.out.c1
  have q2 := BX.out.c2
  have q3 := BX.out.c3
  have q4 := BX.out.c4
  have q5 := BX.out.c5
  have q6 := BX.out.c6
  have q7 := BX.out.c7
  have q8 := BX.out.c8
  have q9 := BX.out.c9
  have q10 := BX.out.c10
  have q11 := BX.out.c11
  have q12 := BX.out.c12
  go_enter Try.func50, Try.ntmps50
  go_wp2_with fail
  rw [← hW]
  clear hW
  refine (whenRight_b j.frm _ _ TB.out).mono ?_
  rintro e wz ⟨rfl, rfl⟩
  go_wp2
  go_ret
  exact ⟨ret_bl e1.out, HB.out⟩
set_option maxRecDepth 100000 in
set_option maxHeartbeats 8000000 in
theorem began_27 (A : Option Addr) (m c : Nat) (j : Jb) (w : World) (hb : timeB j.frm = true) (hc : j.came ≤ j.frm) (hs : j.state = 1) (hz : j.frm = 0) : Calls Try.prog 50 #[.agg #[.int .i64 j.id, .int .i64 j.spec.nodes, .int .i64 j.spec.cores, .int .i64 j.spec.gpus, .string j.spec.tag, .bool j.spec.whole, .int .i64 j.spec.long, .int .i64 j.spec.prio, .slice A m c, .int .i64 j.state, .int .i64 j.came, .int .i64 j.frm, .int .i64 j.to]] w fun e w' => e = .returned (.bool (beganJ j)) ∧ Below w.heap.size w w' := by
  obtain ⟨W, hW⟩ : ∃ W, W = w.alloc (jO j A m c) := ⟨_, rfl⟩
  have BX : Hid (BoxJ W w.heap.size j A m c) := Lib.hid (by rw [hW]; exact boxJ_new w j A m c)
  have HB : Hid (Below w.heap.size w W) := Lib.hid (by rw [hW]; exact (Below.refl _ _).alloc (Nat.le_refl _) _)
  unfold jO at hW
  have TB := Lib.hid hb
  have dc : decide (j.came ≤ j.frm) = true := decide_eq_true hc
  have hbe : behindJ j = true := by unfold behindJ; rw [hb, decide_eq_true hc]; rfl
  have s0 : (j.state == 0) = false := by rw [hs]; rfl
  have s1 : (j.state == 1) = true := by rw [hs]; rfl
  have s2 : (j.state == 2) = false := by rw [hs]; rfl
  have s3 : (j.state == 3) = false := by rw [hs]; rfl
  have s4 : (j.state == 4) = false := by rw [hs]; rfl
  have s5 : (j.state == 5) = false := by rw [hs]; rfl
  have s6 : (j.state == 6) = false := by rw [hs]; rfl
  have z0 : (j.frm == 0) = true := by rw [beq_iff_eq]; exact hz
  have e1 : Hid (beganJ j = true) := Lib.hid (by unfold beganJ; rw [if_pos (by omega)]; exact decide_eq_true hz)
  clear hb hbe hc hs hz
  have q0 := BX.out.c0
  have q1 := BX.out.c1
  have q2 := BX.out.c2
  have q3 := BX.out.c3
  have q4 := BX.out.c4
  have q5 := BX.out.c5
  have q6 := BX.out.c6
  have q7 := BX.out.c7
  have q8 := BX.out.c8
  have q9 := BX.out.c9
  have q10 := BX.out.c10
  have q11 := BX.out.c11
  have q12 := BX.out.c12
  go_enter Try.func50, Try.ntmps50
  go_wp2_with fail
  rw [← hW]
  clear hW
  refine (whenRight_b j.frm _ _ TB.out).mono ?_
  rintro e wz ⟨rfl, rfl⟩
  go_wp2
  go_ret
  exact ⟨ret_bl e1.out, HB.out⟩
set_option maxRecDepth 100000 in
set_option maxHeartbeats 8000000 in
theorem began_28 (A : Option Addr) (m c : Nat) (j : Jb) (w : World) (hb : timeB j.frm = true) (hc : j.came ≤ j.frm) (hs : j.state = 1) (hz : ¬ j.frm = 0) : Calls Try.prog 50 #[.agg #[.int .i64 j.id, .int .i64 j.spec.nodes, .int .i64 j.spec.cores, .int .i64 j.spec.gpus, .string j.spec.tag, .bool j.spec.whole, .int .i64 j.spec.long, .int .i64 j.spec.prio, .slice A m c, .int .i64 j.state, .int .i64 j.came, .int .i64 j.frm, .int .i64 j.to]] w fun e w' => e = .returned (.bool (beganJ j)) ∧ Below w.heap.size w w' := by
  obtain ⟨W, hW⟩ : ∃ W, W = w.alloc (jO j A m c) := ⟨_, rfl⟩
  have BX : Hid (BoxJ W w.heap.size j A m c) := Lib.hid (by rw [hW]; exact boxJ_new w j A m c)
  have HB : Hid (Below w.heap.size w W) := Lib.hid (by rw [hW]; exact (Below.refl _ _).alloc (Nat.le_refl _) _)
  unfold jO at hW
  have TB := Lib.hid hb
  have dc : decide (j.came ≤ j.frm) = true := decide_eq_true hc
  have hbe : behindJ j = true := by unfold behindJ; rw [hb, decide_eq_true hc]; rfl
  have s0 : (j.state == 0) = false := by rw [hs]; rfl
  have s1 : (j.state == 1) = true := by rw [hs]; rfl
  have s2 : (j.state == 2) = false := by rw [hs]; rfl
  have s3 : (j.state == 3) = false := by rw [hs]; rfl
  have s4 : (j.state == 4) = false := by rw [hs]; rfl
  have s5 : (j.state == 5) = false := by rw [hs]; rfl
  have s6 : (j.state == 6) = false := by rw [hs]; rfl
  have z0 : (j.frm == 0) = false := by rw [beq_eq_false_iff_ne]; exact hz
  have e1 : Hid (beganJ j = false) := Lib.hid (by unfold beganJ; rw [if_pos (by omega)]; exact decide_eq_false hz)
  clear hb hbe hc hs hz
  have q0 := BX.out.c0
  have q1 := BX.out.c1
  have q2 := BX.out.c2
  have q3 := BX.out.c3
  have q4 := BX.out.c4
  have q5 := BX.out.c5
  have q6 := BX.out.c6
  have q7 := BX.out.c7
  have q8 := BX.out.c8
  have q9 := BX.out.c9
  have q10 := BX.out.c10
  have q11 := BX.out.c11
  have q12 := BX.out.c12
  go_enter Try.func50, Try.ntmps50
  go_wp2_with fail
  rw [← hW]
  clear hW
  refine (whenRight_b j.frm _ _ TB.out).mono ?_
  rintro e wz ⟨rfl, rfl⟩
  go_wp2
  go_ret
  exact ⟨ret_bl e1.out, HB.out⟩
set_option maxRecDepth 100000 in
set_option maxHeartbeats 8000000 in
theorem began_29 (A : Option Addr) (m c : Nat) (j : Jb) (w : World) (hb : timeB j.frm = true) (hc : j.came ≤ j.frm) (hs : j.state = 6) (hz : j.frm = 0) : Calls Try.prog 50 #[.agg #[.int .i64 j.id, .int .i64 j.spec.nodes, .int .i64 j.spec.cores, .int .i64 j.spec.gpus, .string j.spec.tag, .bool j.spec.whole, .int .i64 j.spec.long, .int .i64 j.spec.prio, .slice A m c, .int .i64 j.state, .int .i64 j.came, .int .i64 j.frm, .int .i64 j.to]] w fun e w' => e = .returned (.bool (beganJ j)) ∧ Below w.heap.size w w' := by
  obtain ⟨W, hW⟩ : ∃ W, W = w.alloc (jO j A m c) := ⟨_, rfl⟩
  have BX : Hid (BoxJ W w.heap.size j A m c) := Lib.hid (by rw [hW]; exact boxJ_new w j A m c)
  have HB : Hid (Below w.heap.size w W) := Lib.hid (by rw [hW]; exact (Below.refl _ _).alloc (Nat.le_refl _) _)
  unfold jO at hW
  have TB := Lib.hid hb
  have dc : decide (j.came ≤ j.frm) = true := decide_eq_true hc
  have hbe : behindJ j = true := by unfold behindJ; rw [hb, decide_eq_true hc]; rfl
  have s0 : (j.state == 0) = false := by rw [hs]; rfl
  have s1 : (j.state == 1) = false := by rw [hs]; rfl
  have s2 : (j.state == 2) = false := by rw [hs]; rfl
  have s3 : (j.state == 3) = false := by rw [hs]; rfl
  have s4 : (j.state == 4) = false := by rw [hs]; rfl
  have s5 : (j.state == 5) = false := by rw [hs]; rfl
  have s6 : (j.state == 6) = true := by rw [hs]; rfl
  have z0 : (j.frm == 0) = true := by rw [beq_iff_eq]; exact hz
  have e1 : Hid (beganJ j = true) := Lib.hid (by unfold beganJ; rw [if_pos (by omega)]; exact decide_eq_true hz)
  clear hb hbe hc hs hz
  have q0 := BX.out.c0
  have q1 := BX.out.c1
  have q2 := BX.out.c2
  have q3 := BX.out.c3
  have q4 := BX.out.c4
  have q5 := BX.out.c5
  have q6 := BX.out.c6
  have q7 := BX.out.c7
  have q8 := BX.out.c8
  have q9 := BX.out.c9
  have q10 := BX.out.c10
  have q11 := BX.out.c11
  have q12 := BX.out.c12
  go_enter Try.func50, Try.ntmps50
  go_wp2_with fail
  rw [← hW]
  clear hW
  refine (whenRight_b j.frm _ _ TB.out).mono ?_
  rintro e wz ⟨rfl, rfl⟩
  go_wp2
  go_ret
  exact ⟨ret_bl e1.out, HB.out⟩
set_option maxRecDepth 100000 in
set_option maxHeartbeats 8000000 in
theorem began_30 (A : Option Addr) (m c : Nat) (j : Jb) (w : World) (hb : timeB j.frm = true) (hc : j.came ≤ j.frm) (hs : j.state = 6) (hz : ¬ j.frm = 0) : Calls Try.prog 50 #[.agg #[.int .i64 j.id, .int .i64 j.spec.nodes, .int .i64 j.spec.cores, .int .i64 j.spec.gpus, .string j.spec.tag, .bool j.spec.whole, .int .i64 j.spec.long, .int .i64 j.spec.prio, .slice A m c, .int .i64 j.state, .int .i64 j.came, .int .i64 j.frm, .int .i64 j.to]] w fun e w' => e = .returned (.bool (beganJ j)) ∧ Below w.heap.size w w' := by
  obtain ⟨W, hW⟩ : ∃ W, W = w.alloc (jO j A m c) := ⟨_, rfl⟩
  have BX : Hid (BoxJ W w.heap.size j A m c) := Lib.hid (by rw [hW]; exact boxJ_new w j A m c)
  have HB : Hid (Below w.heap.size w W) := Lib.hid (by rw [hW]; exact (Below.refl _ _).alloc (Nat.le_refl _) _)
  unfold jO at hW
  have TB := Lib.hid hb
  have dc : decide (j.came ≤ j.frm) = true := decide_eq_true hc
  have hbe : behindJ j = true := by unfold behindJ; rw [hb, decide_eq_true hc]; rfl
  have s0 : (j.state == 0) = false := by rw [hs]; rfl
  have s1 : (j.state == 1) = false := by rw [hs]; rfl
  have s2 : (j.state == 2) = false := by rw [hs]; rfl
  have s3 : (j.state == 3) = false := by rw [hs]; rfl
  have s4 : (j.state == 4) = false := by rw [hs]; rfl
  have s5 : (j.state == 5) = false := by rw [hs]; rfl
  have s6 : (j.state == 6) = true := by rw [hs]; rfl
  have z0 : (j.frm == 0) = false := by rw [beq_eq_false_iff_ne]; exact hz
  have e1 : Hid (beganJ j = false) := Lib.hid (by unfold beganJ; rw [if_pos (by omega)]; exact decide_eq_false hz)
  clear hb hbe hc hs hz
  have q0 := BX.out.c0
  have q1 := BX.out.c1
  have q2 := BX.out.c2
  have q3 := BX.out.c3
  have q4 := BX.out.c4
  have q5 := BX.out.c5
  have q6 := BX.out.c6
  have q7 := BX.out.c7
  have q8 := BX.out.c8
  have q9 := BX.out.c9
  have q10 := BX.out.c10
  have q11 := BX.out.c11
  have q12 := BX.out.c12
  go_enter Try.func50, Try.ntmps50
  go_wp2_with fail
  rw [← hW]
  clear hW
  refine (whenRight_b j.frm _ _ TB.out).mono ?_
  rintro e wz ⟨rfl, rfl⟩
  go_wp2
  go_ret
  exact ⟨ret_bl e1.out, HB.out⟩
set_option maxRecDepth 100000 in
set_option maxHeartbeats 8000000 in
theorem began_31 (A : Option Addr) (m c : Nat) (j : Jb) (w : World) (hb : timeB j.frm = true) (hc : j.came ≤ j.frm) (hs : j.state = 5) (hz : j.frm = 0) : Calls Try.prog 50 #[.agg #[.int .i64 j.id, .int .i64 j.spec.nodes, .int .i64 j.spec.cores, .int .i64 j.spec.gpus, .string j.spec.tag, .bool j.spec.whole, .int .i64 j.spec.long, .int .i64 j.spec.prio, .slice A m c, .int .i64 j.state, .int .i64 j.came, .int .i64 j.frm, .int .i64 j.to]] w fun e w' => e = .returned (.bool (beganJ j)) ∧ Below w.heap.size w w' := by
  obtain ⟨W, hW⟩ : ∃ W, W = w.alloc (jO j A m c) := ⟨_, rfl⟩
  have BX : Hid (BoxJ W w.heap.size j A m c) := Lib.hid (by rw [hW]; exact boxJ_new w j A m c)
  have HB : Hid (Below w.heap.size w W) := Lib.hid (by rw [hW]; exact (Below.refl _ _).alloc (Nat.le_refl _) _)
  unfold jO at hW
  have TB := Lib.hid hb
  have dc : decide (j.came ≤ j.frm) = true := decide_eq_true hc
  have hbe : behindJ j = true := by unfold behindJ; rw [hb, decide_eq_true hc]; rfl
  have s0 : (j.state == 0) = false := by rw [hs]; rfl
  have s1 : (j.state == 1) = false := by rw [hs]; rfl
  have s2 : (j.state == 2) = false := by rw [hs]; rfl
  have s3 : (j.state == 3) = false := by rw [hs]; rfl
  have s4 : (j.state == 4) = false := by rw [hs]; rfl
  have s5 : (j.state == 5) = true := by rw [hs]; rfl
  have s6 : (j.state == 6) = false := by rw [hs]; rfl
  have z0 : (j.frm == 0) = true := by rw [beq_iff_eq]; exact hz
  have e1 : Hid (beganJ j = true) := Lib.hid (by unfold beganJ; rw [if_neg (by omega), if_pos hs, hbe, decide_eq_true hz]; rfl)
  clear hb hbe hc hs hz
  have q0 := BX.out.c0
  have q1 := BX.out.c1
  have q2 := BX.out.c2
  have q3 := BX.out.c3
  have q4 := BX.out.c4
  have q5 := BX.out.c5
  have q6 := BX.out.c6
  have q7 := BX.out.c7
  have q8 := BX.out.c8
  have q9 := BX.out.c9
  have q10 := BX.out.c10
  have q11 := BX.out.c11
  have q12 := BX.out.c12
  go_enter Try.func50, Try.ntmps50
  go_wp2_with fail
  rw [← hW]
  clear hW
  refine (whenRight_b j.frm _ _ TB.out).mono ?_
  rintro e wz ⟨rfl, rfl⟩
  go_wp2
  go_ret
  exact ⟨ret_bl e1.out, HB.out⟩
set_option maxRecDepth 100000 in
set_option maxHeartbeats 8000000 in
theorem began_32 (A : Option Addr) (m c : Nat) (j : Jb) (w : World) (hb : timeB j.frm = true) (hc : j.came ≤ j.frm) (hs : j.state = 5) (hz : ¬ j.frm = 0) : Calls Try.prog 50 #[.agg #[.int .i64 j.id, .int .i64 j.spec.nodes, .int .i64 j.spec.cores, .int .i64 j.spec.gpus, .string j.spec.tag, .bool j.spec.whole, .int .i64 j.spec.long, .int .i64 j.spec.prio, .slice A m c, .int .i64 j.state, .int .i64 j.came, .int .i64 j.frm, .int .i64 j.to]] w fun e w' => e = .returned (.bool (beganJ j)) ∧ Below w.heap.size w w' := by
  obtain ⟨W, hW⟩ : ∃ W, W = w.alloc (jO j A m c) := ⟨_, rfl⟩
  have BX : Hid (BoxJ W w.heap.size j A m c) := Lib.hid (by rw [hW]; exact boxJ_new w j A m c)
  have HB : Hid (Below w.heap.size w W) := Lib.hid (by rw [hW]; exact (Below.refl _ _).alloc (Nat.le_refl _) _)
  unfold jO at hW
  have TB := Lib.hid hb
  have dc : decide (j.came ≤ j.frm) = true := decide_eq_true hc
  have hbe : behindJ j = true := by unfold behindJ; rw [hb, decide_eq_true hc]; rfl
  have s0 : (j.state == 0) = false := by rw [hs]; rfl
  have s1 : (j.state == 1) = false := by rw [hs]; rfl
  have s2 : (j.state == 2) = false := by rw [hs]; rfl
  have s3 : (j.state == 3) = false := by rw [hs]; rfl
  have s4 : (j.state == 4) = false := by rw [hs]; rfl
  have s5 : (j.state == 5) = true := by rw [hs]; rfl
  have s6 : (j.state == 6) = false := by rw [hs]; rfl
  have z0 : (j.frm == 0) = false := by rw [beq_eq_false_iff_ne]; exact hz
  have e1 : Hid (beganJ j = true) := Lib.hid (by unfold beganJ; rw [if_neg (by omega), if_pos hs, hbe, decide_eq_false hz]; rfl)
  clear hb hbe hc hs hz
  have q0 := BX.out.c0
  have q1 := BX.out.c1
  have q2 := BX.out.c2
  have q3 := BX.out.c3
  have q4 := BX.out.c4
  have q5 := BX.out.c5
  have q6 := BX.out.c6
  have q7 := BX.out.c7
  have q8 := BX.out.c8
  have q9 := BX.out.c9
  have q10 := BX.out.c10
  have q11 := BX.out.c11
  have q12 := BX.out.c12
  go_enter Try.func50, Try.ntmps50
  go_wp2_with fail
  rw [← hW]
  clear hW
  refine (whenRight_b j.frm _ _ TB.out).mono ?_
  rintro e wz ⟨rfl, rfl⟩
  go_wp2
  go_ret
  exact ⟨ret_bl e1.out, HB.out⟩
set_option maxRecDepth 100000 in
set_option maxHeartbeats 8000000 in
theorem began_33 (A : Option Addr) (m c : Nat) (j : Jb) (w : World) (hb : timeB j.frm = true) (hc : j.came ≤ j.frm) (hs : j.state = 2)  : Calls Try.prog 50 #[.agg #[.int .i64 j.id, .int .i64 j.spec.nodes, .int .i64 j.spec.cores, .int .i64 j.spec.gpus, .string j.spec.tag, .bool j.spec.whole, .int .i64 j.spec.long, .int .i64 j.spec.prio, .slice A m c, .int .i64 j.state, .int .i64 j.came, .int .i64 j.frm, .int .i64 j.to]] w fun e w' => e = .returned (.bool (beganJ j)) ∧ Below w.heap.size w w' := by
  obtain ⟨W, hW⟩ : ∃ W, W = w.alloc (jO j A m c) := ⟨_, rfl⟩
  have BX : Hid (BoxJ W w.heap.size j A m c) := Lib.hid (by rw [hW]; exact boxJ_new w j A m c)
  have HB : Hid (Below w.heap.size w W) := Lib.hid (by rw [hW]; exact (Below.refl _ _).alloc (Nat.le_refl _) _)
  unfold jO at hW
  have TB := Lib.hid hb
  have dc : decide (j.came ≤ j.frm) = true := decide_eq_true hc
  have hbe : behindJ j = true := by unfold behindJ; rw [hb, decide_eq_true hc]; rfl
  have s0 : (j.state == 0) = false := by rw [hs]; rfl
  have s1 : (j.state == 1) = false := by rw [hs]; rfl
  have s2 : (j.state == 2) = true := by rw [hs]; rfl
  have s3 : (j.state == 3) = false := by rw [hs]; rfl
  have s4 : (j.state == 4) = false := by rw [hs]; rfl
  have s5 : (j.state == 5) = false := by rw [hs]; rfl
  have s6 : (j.state == 6) = false := by rw [hs]; rfl
  have e1 : Hid (beganJ j = true) := Lib.hid (by unfold beganJ; rw [if_neg (by omega), if_neg (by omega), if_pos (by omega)]; exact hbe)
  clear hb hbe hc hs
  have q0 := BX.out.c0
  have q1 := BX.out.c1
  have q2 := BX.out.c2
  have q3 := BX.out.c3
  have q4 := BX.out.c4
  have q5 := BX.out.c5
  have q6 := BX.out.c6
  have q7 := BX.out.c7
  have q8 := BX.out.c8
  have q9 := BX.out.c9
  have q10 := BX.out.c10
  have q11 := BX.out.c11
  have q12 := BX.out.c12
  go_enter Try.func50, Try.ntmps50
  go_wp2_with fail
  rw [← hW]
  clear hW
  refine (whenRight_b j.frm _ _ TB.out).mono ?_
  rintro e wz ⟨rfl, rfl⟩
  go_wp2
  go_ret
  exact ⟨ret_bl e1.out, HB.out⟩
set_option maxRecDepth 100000 in
set_option maxHeartbeats 8000000 in
theorem began_34 (A : Option Addr) (m c : Nat) (j : Jb) (w : World) (hb : timeB j.frm = true) (hc : j.came ≤ j.frm) (hs : j.state = 3)  : Calls Try.prog 50 #[.agg #[.int .i64 j.id, .int .i64 j.spec.nodes, .int .i64 j.spec.cores, .int .i64 j.spec.gpus, .string j.spec.tag, .bool j.spec.whole, .int .i64 j.spec.long, .int .i64 j.spec.prio, .slice A m c, .int .i64 j.state, .int .i64 j.came, .int .i64 j.frm, .int .i64 j.to]] w fun e w' => e = .returned (.bool (beganJ j)) ∧ Below w.heap.size w w' := by
  obtain ⟨W, hW⟩ : ∃ W, W = w.alloc (jO j A m c) := ⟨_, rfl⟩
  have BX : Hid (BoxJ W w.heap.size j A m c) := Lib.hid (by rw [hW]; exact boxJ_new w j A m c)
  have HB : Hid (Below w.heap.size w W) := Lib.hid (by rw [hW]; exact (Below.refl _ _).alloc (Nat.le_refl _) _)
  unfold jO at hW
  have TB := Lib.hid hb
  have dc : decide (j.came ≤ j.frm) = true := decide_eq_true hc
  have hbe : behindJ j = true := by unfold behindJ; rw [hb, decide_eq_true hc]; rfl
  have s0 : (j.state == 0) = false := by rw [hs]; rfl
  have s1 : (j.state == 1) = false := by rw [hs]; rfl
  have s2 : (j.state == 2) = false := by rw [hs]; rfl
  have s3 : (j.state == 3) = true := by rw [hs]; rfl
  have s4 : (j.state == 4) = false := by rw [hs]; rfl
  have s5 : (j.state == 5) = false := by rw [hs]; rfl
  have s6 : (j.state == 6) = false := by rw [hs]; rfl
  have e1 : Hid (beganJ j = true) := Lib.hid (by unfold beganJ; rw [if_neg (by omega), if_neg (by omega), if_pos (by omega)]; exact hbe)
  clear hb hbe hc hs
  have q0 := BX.out.c0
  have q1 := BX.out.c1
  have q2 := BX.out.c2
  have q3 := BX.out.c3
  have q4 := BX.out.c4
  have q5 := BX.out.c5
  have q6 := BX.out.c6
  have q7 := BX.out.c7
  have q8 := BX.out.c8
  have q9 := BX.out.c9
  have q10 := BX.out.c10
  have q11 := BX.out.c11
  have q12 := BX.out.c12
  go_enter Try.func50, Try.ntmps50
  go_wp2_with fail
  rw [← hW]
  clear hW
  refine (whenRight_b j.frm _ _ TB.out).mono ?_
  rintro e wz ⟨rfl, rfl⟩
  go_wp2
  go_ret
  exact ⟨ret_bl e1.out, HB.out⟩
set_option maxRecDepth 100000 in
set_option maxHeartbeats 8000000 in
theorem began_35 (A : Option Addr) (m c : Nat) (j : Jb) (w : World) (hb : timeB j.frm = true) (hc : j.came ≤ j.frm) (hs : j.state = 4)  : Calls Try.prog 50 #[.agg #[.int .i64 j.id, .int .i64 j.spec.nodes, .int .i64 j.spec.cores, .int .i64 j.spec.gpus, .string j.spec.tag, .bool j.spec.whole, .int .i64 j.spec.long, .int .i64 j.spec.prio, .slice A m c, .int .i64 j.state, .int .i64 j.came, .int .i64 j.frm, .int .i64 j.to]] w fun e w' => e = .returned (.bool (beganJ j)) ∧ Below w.heap.size w w' := by
  obtain ⟨W, hW⟩ : ∃ W, W = w.alloc (jO j A m c) := ⟨_, rfl⟩
  have BX : Hid (BoxJ W w.heap.size j A m c) := Lib.hid (by rw [hW]; exact boxJ_new w j A m c)
  have HB : Hid (Below w.heap.size w W) := Lib.hid (by rw [hW]; exact (Below.refl _ _).alloc (Nat.le_refl _) _)
  unfold jO at hW
  have TB := Lib.hid hb
  have dc : decide (j.came ≤ j.frm) = true := decide_eq_true hc
  have hbe : behindJ j = true := by unfold behindJ; rw [hb, decide_eq_true hc]; rfl
  have s0 : (j.state == 0) = false := by rw [hs]; rfl
  have s1 : (j.state == 1) = false := by rw [hs]; rfl
  have s2 : (j.state == 2) = false := by rw [hs]; rfl
  have s3 : (j.state == 3) = false := by rw [hs]; rfl
  have s4 : (j.state == 4) = true := by rw [hs]; rfl
  have s5 : (j.state == 5) = false := by rw [hs]; rfl
  have s6 : (j.state == 6) = false := by rw [hs]; rfl
  have e1 : Hid (beganJ j = true) := Lib.hid (by unfold beganJ; rw [if_neg (by omega), if_neg (by omega), if_pos (by omega)]; exact hbe)
  clear hb hbe hc hs
  have q0 := BX.out.c0
  have q1 := BX.out.c1
  have q2 := BX.out.c2
  have q3 := BX.out.c3
  have q4 := BX.out.c4
  have q5 := BX.out.c5
  have q6 := BX.out.c6
  have q7 := BX.out.c7
  have q8 := BX.out.c8
  have q9 := BX.out.c9
  have q10 := BX.out.c10
  have q11 := BX.out.c11
  have q12 := BX.out.c12
  go_enter Try.func50, Try.ntmps50
  go_wp2_with fail
  rw [← hW]
  clear hW
  refine (whenRight_b j.frm _ _ TB.out).mono ?_
  rintro e wz ⟨rfl, rfl⟩
  go_wp2
  go_ret
  exact ⟨ret_bl e1.out, HB.out⟩
set_option maxRecDepth 100000 in
set_option maxHeartbeats 8000000 in
theorem began_36 (A : Option Addr) (m c : Nat) (j : Jb) (w : World) (hb : timeB j.frm = true) (hc : j.came ≤ j.frm) (hs : ¬ (0 ≤ j.state ∧ j.state ≤ 6))  : Calls Try.prog 50 #[.agg #[.int .i64 j.id, .int .i64 j.spec.nodes, .int .i64 j.spec.cores, .int .i64 j.spec.gpus, .string j.spec.tag, .bool j.spec.whole, .int .i64 j.spec.long, .int .i64 j.spec.prio, .slice A m c, .int .i64 j.state, .int .i64 j.came, .int .i64 j.frm, .int .i64 j.to]] w fun e w' => e = .returned (.bool (beganJ j)) ∧ Below w.heap.size w w' := by
  obtain ⟨W, hW⟩ : ∃ W, W = w.alloc (jO j A m c) := ⟨_, rfl⟩
  have BX : Hid (BoxJ W w.heap.size j A m c) := Lib.hid (by rw [hW]; exact boxJ_new w j A m c)
  have HB : Hid (Below w.heap.size w W) := Lib.hid (by rw [hW]; exact (Below.refl _ _).alloc (Nat.le_refl _) _)
  unfold jO at hW
  have TB := Lib.hid hb
  have dc : decide (j.came ≤ j.frm) = true := decide_eq_true hc
  have hbe : behindJ j = true := by unfold behindJ; rw [hb, decide_eq_true hc]; rfl
  have s0 : (j.state == 0) = false := by rw [beq_eq_false_iff_ne]; omega
  have s1 : (j.state == 1) = false := by rw [beq_eq_false_iff_ne]; omega
  have s2 : (j.state == 2) = false := by rw [beq_eq_false_iff_ne]; omega
  have s3 : (j.state == 3) = false := by rw [beq_eq_false_iff_ne]; omega
  have s4 : (j.state == 4) = false := by rw [beq_eq_false_iff_ne]; omega
  have s5 : (j.state == 5) = false := by rw [beq_eq_false_iff_ne]; omega
  have s6 : (j.state == 6) = false := by rw [beq_eq_false_iff_ne]; omega
  have e1 : Hid (beganJ j = false) := Lib.hid (by unfold beganJ; rw [if_neg (by omega), if_neg (by omega), if_neg (by omega)])
  clear hb hbe hc hs
  have q0 := BX.out.c0
  have q1 := BX.out.c1
  have q2 := BX.out.c2
  have q3 := BX.out.c3
  have q4 := BX.out.c4
  have q5 := BX.out.c5
  have q6 := BX.out.c6
  have q7 := BX.out.c7
  have q8 := BX.out.c8
  have q9 := BX.out.c9
  have q10 := BX.out.c10
  have q11 := BX.out.c11
  have q12 := BX.out.c12
  go_enter Try.func50, Try.ntmps50
  go_wp2_with fail
  rw [← hW]
  clear hW
  refine (whenRight_b j.frm _ _ TB.out).mono ?_
  rintro e wz ⟨rfl, rfl⟩
  go_wp2
  go_ret
  exact ⟨ret_bl e1.out, HB.out⟩
theorem began_any (A : Option Addr) (m c : Nat) (j : Jb) (w : World) : Calls Try.prog 50 #[.agg #[.int .i64 j.id, .int .i64 j.spec.nodes, .int .i64 j.spec.cores, .int .i64 j.spec.gpus, .string j.spec.tag, .bool j.spec.whole, .int .i64 j.spec.long, .int .i64 j.spec.prio, .slice A m c, .int .i64 j.state, .int .i64 j.came, .int .i64 j.frm, .int .i64 j.to]] w fun e w' => e = .returned (.bool (beganJ j)) ∧ Below w.heap.size w w' := by
  cases hb : timeB j.frm with
  | false =>
    by_cases s0 : j.state = 0
    · by_cases hz : j.frm = 0
      · exact began_1 A m c j w hb s0 hz
      · exact began_2 A m c j w hb s0 hz
    by_cases s1 : j.state = 1
    · by_cases hz : j.frm = 0
      · exact began_3 A m c j w hb s1 hz
      · exact began_4 A m c j w hb s1 hz
    by_cases s6 : j.state = 6
    · by_cases hz : j.frm = 0
      · exact began_5 A m c j w hb s6 hz
      · exact began_6 A m c j w hb s6 hz
    by_cases s5 : j.state = 5
    · by_cases hz : j.frm = 0
      · exact began_7 A m c j w hb s5 hz
      · exact began_8 A m c j w hb s5 hz
    by_cases s2 : j.state = 2
    · exact began_9 A m c j w hb s2
    by_cases s3 : j.state = 3
    · exact began_10 A m c j w hb s3
    by_cases s4 : j.state = 4
    · exact began_11 A m c j w hb s4
    exact began_12 A m c j w hb (by omega)
  | true =>
    by_cases hc : j.came ≤ j.frm
    · by_cases s0 : j.state = 0
      · by_cases hz : j.frm = 0
        · exact began_25 A m c j w hb hc s0 hz
        · exact began_26 A m c j w hb hc s0 hz
      by_cases s1 : j.state = 1
      · by_cases hz : j.frm = 0
        · exact began_27 A m c j w hb hc s1 hz
        · exact began_28 A m c j w hb hc s1 hz
      by_cases s6 : j.state = 6
      · by_cases hz : j.frm = 0
        · exact began_29 A m c j w hb hc s6 hz
        · exact began_30 A m c j w hb hc s6 hz
      by_cases s5 : j.state = 5
      · by_cases hz : j.frm = 0
        · exact began_31 A m c j w hb hc s5 hz
        · exact began_32 A m c j w hb hc s5 hz
      by_cases s2 : j.state = 2
      · exact began_33 A m c j w hb hc s2
      by_cases s3 : j.state = 3
      · exact began_34 A m c j w hb hc s3
      by_cases s4 : j.state = 4
      · exact began_35 A m c j w hb hc s4
      exact began_36 A m c j w hb hc (by omega)
    by_cases s0 : j.state = 0
    · by_cases hz : j.frm = 0
      · exact began_13 A m c j w hb hc s0 hz
      · exact began_14 A m c j w hb hc s0 hz
    by_cases s1 : j.state = 1
    · by_cases hz : j.frm = 0
      · exact began_15 A m c j w hb hc s1 hz
      · exact began_16 A m c j w hb hc s1 hz
    by_cases s6 : j.state = 6
    · by_cases hz : j.frm = 0
      · exact began_17 A m c j w hb hc s6 hz
      · exact began_18 A m c j w hb hc s6 hz
    by_cases s5 : j.state = 5
    · by_cases hz : j.frm = 0
      · exact began_19 A m c j w hb hc s5 hz
      · exact began_20 A m c j w hb hc s5 hz
    by_cases s2 : j.state = 2
    · exact began_21 A m c j w hb hc s2
    by_cases s3 : j.state = 3
    · exact began_22 A m c j w hb hc s3
    by_cases s4 : j.state = 4
    · exact began_23 A m c j w hb hc s4
    exact began_24 A m c j w hb hc (by omega)
theorem began_b {A : Option Addr} {m c : Nat} {j : Jb} {w : World} {v : Bool} (h : beganJ j = v) : Calls Try.prog 50 #[.agg #[.int .i64 j.id, .int .i64 j.spec.nodes, .int .i64 j.spec.cores, .int .i64 j.spec.gpus, .string j.spec.tag, .bool j.spec.whole, .int .i64 j.spec.long, .int .i64 j.spec.prio, .slice A m c, .int .i64 j.state, .int .i64 j.came, .int .i64 j.frm, .int .i64 j.to]] w fun e w' => e = .returned (.bool v) ∧ Below w.heap.size w w' := by
  subst h; exact began_any A m c j w
set_option maxRecDepth 100000 in
set_option maxHeartbeats 8000000 in
theorem ended_1 (A : Option Addr) (m c : Nat) (j : Jb) (w : World) (ho : overJ j.state = false) (hz : j.to = 0) : Calls Try.prog 51 #[.agg #[.int .i64 j.id, .int .i64 j.spec.nodes, .int .i64 j.spec.cores, .int .i64 j.spec.gpus, .string j.spec.tag, .bool j.spec.whole, .int .i64 j.spec.long, .int .i64 j.spec.prio, .slice A m c, .int .i64 j.state, .int .i64 j.came, .int .i64 j.frm, .int .i64 j.to]] w fun e w' => e = .returned (.bool (endedJ j)) ∧ Below w.heap.size w w' := by
  obtain ⟨W, hW⟩ : ∃ W, W = w.alloc (jO j A m c) := ⟨_, rfl⟩
  have BX : Hid (BoxJ W w.heap.size j A m c) := Lib.hid (by rw [hW]; exact boxJ_new w j A m c)
  have HB : Hid (Below w.heap.size w W) := Lib.hid (by rw [hW]; exact (Below.refl _ _).alloc (Nat.le_refl _) _)
  unfold jO at hW
  have z0 : (j.to == 0) = true := by rw [beq_iff_eq]; exact hz
  have e1 : Hid (endedJ j = true) := Lib.hid (by unfold endedJ; rw [if_neg (by rw [ho]; decide)]; exact decide_eq_true hz)
  have OV := Lib.hid ho
  clear ho hz
  have q0 := BX.out.c0
  have q1 := BX.out.c1
  have q2 := BX.out.c2
  have q3 := BX.out.c3
  have q4 := BX.out.c4
  have q5 := BX.out.c5
  have q6 := BX.out.c6
  have q7 := BX.out.c7
  have q8 := BX.out.c8
  have q9 := BX.out.c9
  have q10 := BX.out.c10
  have q11 := BX.out.c11
  have q12 := BX.out.c12
  go_enter Try.func51, Try.ntmps51
  go_wp2_with fail
  rw [← hW]
  clear hW
  refine (over_b OV.out).mono ?_
  rintro e wz ⟨rfl, rfl⟩
  go_wp2
  go_ret
  exact ⟨ret_bl e1.out, HB.out⟩
set_option maxRecDepth 100000 in
set_option maxHeartbeats 8000000 in
theorem ended_2 (A : Option Addr) (m c : Nat) (j : Jb) (w : World) (ho : overJ j.state = false) (hz : ¬ j.to = 0) : Calls Try.prog 51 #[.agg #[.int .i64 j.id, .int .i64 j.spec.nodes, .int .i64 j.spec.cores, .int .i64 j.spec.gpus, .string j.spec.tag, .bool j.spec.whole, .int .i64 j.spec.long, .int .i64 j.spec.prio, .slice A m c, .int .i64 j.state, .int .i64 j.came, .int .i64 j.frm, .int .i64 j.to]] w fun e w' => e = .returned (.bool (endedJ j)) ∧ Below w.heap.size w w' := by
  obtain ⟨W, hW⟩ : ∃ W, W = w.alloc (jO j A m c) := ⟨_, rfl⟩
  have BX : Hid (BoxJ W w.heap.size j A m c) := Lib.hid (by rw [hW]; exact boxJ_new w j A m c)
  have HB : Hid (Below w.heap.size w W) := Lib.hid (by rw [hW]; exact (Below.refl _ _).alloc (Nat.le_refl _) _)
  unfold jO at hW
  have z0 : (j.to == 0) = false := by rw [beq_eq_false_iff_ne]; exact hz
  have e1 : Hid (endedJ j = false) := Lib.hid (by unfold endedJ; rw [if_neg (by rw [ho]; decide)]; exact decide_eq_false hz)
  have OV := Lib.hid ho
  clear ho hz
  have q0 := BX.out.c0
  have q1 := BX.out.c1
  have q2 := BX.out.c2
  have q3 := BX.out.c3
  have q4 := BX.out.c4
  have q5 := BX.out.c5
  have q6 := BX.out.c6
  have q7 := BX.out.c7
  have q8 := BX.out.c8
  have q9 := BX.out.c9
  have q10 := BX.out.c10
  have q11 := BX.out.c11
  have q12 := BX.out.c12
  go_enter Try.func51, Try.ntmps51
  go_wp2_with fail
  rw [← hW]
  clear hW
  refine (over_b OV.out).mono ?_
  rintro e wz ⟨rfl, rfl⟩
  go_wp2
  go_ret
  exact ⟨ret_bl e1.out, HB.out⟩
set_option maxRecDepth 100000 in
set_option maxHeartbeats 8000000 in
theorem ended_3 (A : Option Addr) (m c : Nat) (j : Jb) (w : World) (ho : overJ j.state = true) (ht : timeB j.to = false) : Calls Try.prog 51 #[.agg #[.int .i64 j.id, .int .i64 j.spec.nodes, .int .i64 j.spec.cores, .int .i64 j.spec.gpus, .string j.spec.tag, .bool j.spec.whole, .int .i64 j.spec.long, .int .i64 j.spec.prio, .slice A m c, .int .i64 j.state, .int .i64 j.came, .int .i64 j.frm, .int .i64 j.to]] w fun e w' => e = .returned (.bool (endedJ j)) ∧ Below w.heap.size w w' := by
  obtain ⟨W, hW⟩ : ∃ W, W = w.alloc (jO j A m c) := ⟨_, rfl⟩
  have BX : Hid (BoxJ W w.heap.size j A m c) := Lib.hid (by rw [hW]; exact boxJ_new w j A m c)
  have HB : Hid (Below w.heap.size w W) := Lib.hid (by rw [hW]; exact (Below.refl _ _).alloc (Nat.le_refl _) _)
  unfold jO at hW
  have e1 : Hid (endedJ j = false) := Lib.hid (by unfold endedJ; rw [if_pos ho, ht]; rfl)
  have OV := Lib.hid ho
  have TT := Lib.hid ht
  clear ho ht
  have q0 := BX.out.c0
  have q1 := BX.out.c1
  have q2 := BX.out.c2
  have q3 := BX.out.c3
  have q4 := BX.out.c4
  have q5 := BX.out.c5
  have q6 := BX.out.c6
  have q7 := BX.out.c7
  have q8 := BX.out.c8
  have q9 := BX.out.c9
  have q10 := BX.out.c10
  have q11 := BX.out.c11
  have q12 := BX.out.c12
  go_enter Try.func51, Try.ntmps51
  go_wp2_with fail
  rw [← hW]
  clear hW
  refine (over_b OV.out).mono ?_
  rintro e wz ⟨rfl, rfl⟩
  go_wp2_with fail
  refine (whenRight_b j.to _ _ TT.out).mono ?_
  rintro e wz ⟨rfl, rfl⟩
  go_wp2
  go_ret
  exact ⟨ret_bl e1.out, HB.out⟩
set_option maxRecDepth 100000 in
set_option maxHeartbeats 8000000 in
theorem ended_4 (A : Option Addr) (m c : Nat) (j : Jb) (w : World) (ho : overJ j.state = true) (ht : timeB j.to = true) (h1 : ¬ j.came ≤ j.to) : Calls Try.prog 51 #[.agg #[.int .i64 j.id, .int .i64 j.spec.nodes, .int .i64 j.spec.cores, .int .i64 j.spec.gpus, .string j.spec.tag, .bool j.spec.whole, .int .i64 j.spec.long, .int .i64 j.spec.prio, .slice A m c, .int .i64 j.state, .int .i64 j.came, .int .i64 j.frm, .int .i64 j.to]] w fun e w' => e = .returned (.bool (endedJ j)) ∧ Below w.heap.size w w' := by
  obtain ⟨W, hW⟩ : ∃ W, W = w.alloc (jO j A m c) := ⟨_, rfl⟩
  have BX : Hid (BoxJ W w.heap.size j A m c) := Lib.hid (by rw [hW]; exact boxJ_new w j A m c)
  have HB : Hid (Below w.heap.size w W) := Lib.hid (by rw [hW]; exact (Below.refl _ _).alloc (Nat.le_refl _) _)
  unfold jO at hW
  have e1 : Hid (endedJ j = false) := Lib.hid (by unfold endedJ; rw [if_pos ho, ht, decide_eq_false h1]; rfl)
  have d1 : decide (j.came ≤ j.to) = false := decide_eq_false h1
  have OV := Lib.hid ho
  have TT := Lib.hid ht
  clear ho ht h1
  have q0 := BX.out.c0
  have q1 := BX.out.c1
  have q2 := BX.out.c2
  have q3 := BX.out.c3
  have q4 := BX.out.c4
  have q5 := BX.out.c5
  have q6 := BX.out.c6
  have q7 := BX.out.c7
  have q8 := BX.out.c8
  have q9 := BX.out.c9
  have q10 := BX.out.c10
  have q11 := BX.out.c11
  have q12 := BX.out.c12
  go_enter Try.func51, Try.ntmps51
  go_wp2_with fail
  rw [← hW]
  clear hW
  refine (over_b OV.out).mono ?_
  rintro e wz ⟨rfl, rfl⟩
  go_wp2_with fail
  refine (whenRight_b j.to _ _ TT.out).mono ?_
  rintro e wz ⟨rfl, rfl⟩
  go_wp2
  go_ret
  exact ⟨ret_bl e1.out, HB.out⟩
set_option maxRecDepth 100000 in
set_option maxHeartbeats 8000000 in
theorem ended_5 (A : Option Addr) (m c : Nat) (j : Jb) (w : World) (ho : overJ j.state = true) (ht : timeB j.to = true) (h1 : j.came ≤ j.to) (h2 : ¬ j.frm ≤ j.to) : Calls Try.prog 51 #[.agg #[.int .i64 j.id, .int .i64 j.spec.nodes, .int .i64 j.spec.cores, .int .i64 j.spec.gpus, .string j.spec.tag, .bool j.spec.whole, .int .i64 j.spec.long, .int .i64 j.spec.prio, .slice A m c, .int .i64 j.state, .int .i64 j.came, .int .i64 j.frm, .int .i64 j.to]] w fun e w' => e = .returned (.bool (endedJ j)) ∧ Below w.heap.size w w' := by
  obtain ⟨W, hW⟩ : ∃ W, W = w.alloc (jO j A m c) := ⟨_, rfl⟩
  have BX : Hid (BoxJ W w.heap.size j A m c) := Lib.hid (by rw [hW]; exact boxJ_new w j A m c)
  have HB : Hid (Below w.heap.size w W) := Lib.hid (by rw [hW]; exact (Below.refl _ _).alloc (Nat.le_refl _) _)
  unfold jO at hW
  have e1 : Hid (endedJ j = false) := Lib.hid (by unfold endedJ; rw [if_pos ho, ht, decide_eq_true h1, decide_eq_false h2]; rfl)
  have d1 : decide (j.came ≤ j.to) = true := decide_eq_true h1
  have d2 : decide (j.frm ≤ j.to) = false := decide_eq_false h2
  have OV := Lib.hid ho
  have TT := Lib.hid ht
  clear ho ht h1 h2
  have q0 := BX.out.c0
  have q1 := BX.out.c1
  have q2 := BX.out.c2
  have q3 := BX.out.c3
  have q4 := BX.out.c4
  have q5 := BX.out.c5
  have q6 := BX.out.c6
  have q7 := BX.out.c7
  have q8 := BX.out.c8
  have q9 := BX.out.c9
  have q10 := BX.out.c10
  have q11 := BX.out.c11
  have q12 := BX.out.c12
  go_enter Try.func51, Try.ntmps51
  go_wp2_with fail
  rw [← hW]
  clear hW
  refine (over_b OV.out).mono ?_
  rintro e wz ⟨rfl, rfl⟩
  go_wp2_with fail
  refine (whenRight_b j.to _ _ TT.out).mono ?_
  rintro e wz ⟨rfl, rfl⟩
  go_wp2
  go_ret
  exact ⟨ret_bl e1.out, HB.out⟩
set_option maxRecDepth 100000 in
set_option maxHeartbeats 8000000 in
theorem ended_6 (A : Option Addr) (m c : Nat) (j : Jb) (w : World) (ho : overJ j.state = true) (ht : timeB j.to = true) (h1 : j.came ≤ j.to) (h2 : j.frm ≤ j.to) : Calls Try.prog 51 #[.agg #[.int .i64 j.id, .int .i64 j.spec.nodes, .int .i64 j.spec.cores, .int .i64 j.spec.gpus, .string j.spec.tag, .bool j.spec.whole, .int .i64 j.spec.long, .int .i64 j.spec.prio, .slice A m c, .int .i64 j.state, .int .i64 j.came, .int .i64 j.frm, .int .i64 j.to]] w fun e w' => e = .returned (.bool (endedJ j)) ∧ Below w.heap.size w w' := by
  obtain ⟨W, hW⟩ : ∃ W, W = w.alloc (jO j A m c) := ⟨_, rfl⟩
  have BX : Hid (BoxJ W w.heap.size j A m c) := Lib.hid (by rw [hW]; exact boxJ_new w j A m c)
  have HB : Hid (Below w.heap.size w W) := Lib.hid (by rw [hW]; exact (Below.refl _ _).alloc (Nat.le_refl _) _)
  unfold jO at hW
  have e1 : Hid (endedJ j = true) := Lib.hid (by unfold endedJ; rw [if_pos ho, ht, decide_eq_true h1, decide_eq_true h2]; rfl)
  have d1 : decide (j.came ≤ j.to) = true := decide_eq_true h1
  have d2 : decide (j.frm ≤ j.to) = true := decide_eq_true h2
  have OV := Lib.hid ho
  have TT := Lib.hid ht
  clear ho ht h1 h2
  have q0 := BX.out.c0
  have q1 := BX.out.c1
  have q2 := BX.out.c2
  have q3 := BX.out.c3
  have q4 := BX.out.c4
  have q5 := BX.out.c5
  have q6 := BX.out.c6
  have q7 := BX.out.c7
  have q8 := BX.out.c8
  have q9 := BX.out.c9
  have q10 := BX.out.c10
  have q11 := BX.out.c11
  have q12 := BX.out.c12
  go_enter Try.func51, Try.ntmps51
  go_wp2_with fail
  rw [← hW]
  clear hW
  refine (over_b OV.out).mono ?_
  rintro e wz ⟨rfl, rfl⟩
  go_wp2_with fail
  refine (whenRight_b j.to _ _ TT.out).mono ?_
  rintro e wz ⟨rfl, rfl⟩
  go_wp2
  go_ret
  exact ⟨ret_bl e1.out, HB.out⟩
theorem ended_any (A : Option Addr) (m c : Nat) (j : Jb) (w : World) : Calls Try.prog 51 #[.agg #[.int .i64 j.id, .int .i64 j.spec.nodes, .int .i64 j.spec.cores, .int .i64 j.spec.gpus, .string j.spec.tag, .bool j.spec.whole, .int .i64 j.spec.long, .int .i64 j.spec.prio, .slice A m c, .int .i64 j.state, .int .i64 j.came, .int .i64 j.frm, .int .i64 j.to]] w fun e w' => e = .returned (.bool (endedJ j)) ∧ Below w.heap.size w w' := by
  cases ho : overJ j.state with
  | false =>
    by_cases hz : j.to = 0
    · exact ended_1 A m c j w ho hz
    · exact ended_2 A m c j w ho hz
  | true =>
    cases ht : timeB j.to with
    | false => exact ended_3 A m c j w ho ht
    | true =>
      by_cases h1 : j.came ≤ j.to
      · by_cases h2 : j.frm ≤ j.to
        · exact ended_6 A m c j w ho ht h1 h2
        · exact ended_5 A m c j w ho ht h1 h2
      · exact ended_4 A m c j w ho ht h1
theorem ended_b {A : Option Addr} {m c : Nat} {j : Jb} {w : World} {v : Bool} (h : endedJ j = v) : Calls Try.prog 51 #[.agg #[.int .i64 j.id, .int .i64 j.spec.nodes, .int .i64 j.spec.cores, .int .i64 j.spec.gpus, .string j.spec.tag, .bool j.spec.whole, .int .i64 j.spec.long, .int .i64 j.spec.prio, .slice A m c, .int .i64 j.state, .int .i64 j.came, .int .i64 j.frm, .int .i64 j.to]] w fun e w' => e = .returned (.bool v) ∧ Below w.heap.size w w' := by
  subst h; exact ended_any A m c j w

end Go.Proofs.Ytimgdlddfnglaaa
