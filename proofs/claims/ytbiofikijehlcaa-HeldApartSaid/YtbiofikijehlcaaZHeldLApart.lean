/- The statement HeldApart, as a walk over the contracts: of any table, time and holding the call returns true. Written by gen/gen_heldlaws.py. -/
import Derived.Test.YtbiofikijehlcaaMg04
import Derived.Test.YtbiofikijehlcaaMg07
namespace Go.Proofs.Ytbiofikijehlcaa
open Go.RowKit

set_option maxRecDepth 100000 in
set_option maxHeartbeats 8000000 in
theorem heldApart_l0 (H : HeldOk) (A : Option Addr) (n c : Nat) (l : Tb) (t : Int) (A2 : Option Addr) (m c2 : Nat) (h : Hd) (w : World) (hl : TAsk w A n c l) (hh : HAsk w A2 m c2 h) (h0 : shortT l = false) :
    Calls Try.prog 4 #[.slice A n c, .int .i64 t, .agg #[.int .i64 h.id, .slice A2 m c2, .int .i64 h.frm, .int .i64 h.to]] w fun e w' => e = .returned (.bool true) ∧ Below w.heap.size w w' := by
  obtain ⟨W, hW⟩ : ∃ W, W = w.alloc (hO h A2 m c2) := ⟨_, rfl⟩
  have BX : Hid (BoxH W w.heap.size h A2 m c2) := Lib.hid (by rw [hW]; exact boxH_new w h A2 m c2)
  have hb0 : Below w.heap.size w W := by rw [hW]; exact (Below.refl _ _).alloc (Nat.le_refl _) _
  have HB := Lib.hid hb0
  have T0 := Lib.hid (hl.next hb0)
  have HH := Lib.hid (hh.next hb0)
  have hm2 := hh.few
  unfold maxLen at hm2
  unfold hO at hW
  have E0 := Lib.hid h0
  clear hb0 hl hh HH BX h0
  go_enter Try.func4, Try.ntmps4
  go_wp2_with fail
  rw [← hW]
  refine (awake10_any H _).mono ?_
  rintro e w1 ⟨rfl, hb⟩
  have HBq := Lib.hid (HB.out.trans (hb.mono HB.out.size))
  clear HB
  have HB := HBq
  clear HBq
  have T0q := Lib.hid (T0.out.next hb)
  clear T0
  have T0 := T0q
  clear T0q
  clear hb
  clear hW
  go_wp2_with fail
  refine (short_b T0.out E0.out).mono ?_
  rintro e w2 ⟨rfl, hb⟩
  have HBq := Lib.hid (HB.out.trans (hb.mono HB.out.size))
  clear HB
  have HB := HBq
  clear HBq
  have T0q := Lib.hid (T0.out.next hb)
  clear T0
  have T0 := T0q
  clear T0q
  clear hb
  go_wp2
  go_ret
  exact ⟨rfl, HB.out⟩

set_option maxRecDepth 100000 in
set_option maxHeartbeats 8000000 in
theorem heldApart_l1 (H : HeldOk) (A : Option Addr) (n c : Nat) (l : Tb) (t : Int) (A2 : Option Addr) (m c2 : Nat) (h : Hd) (w : World) (hl : TAsk w A n c l) (hh : HAsk w A2 m c2 h) (h0 : shortT l = true) (h60 : 60 < m) :
    Calls Try.prog 4 #[.slice A n c, .int .i64 t, .agg #[.int .i64 h.id, .slice A2 m c2, .int .i64 h.frm, .int .i64 h.to]] w fun e w' => e = .returned (.bool true) ∧ Below w.heap.size w w' := by
  obtain ⟨W, hW⟩ : ∃ W, W = w.alloc (hO h A2 m c2) := ⟨_, rfl⟩
  have BX : Hid (BoxH W w.heap.size h A2 m c2) := Lib.hid (by rw [hW]; exact boxH_new w h A2 m c2)
  have hb0 : Below w.heap.size w W := by rw [hW]; exact (Below.refl _ _).alloc (Nat.le_refl _) _
  have HB := Lib.hid hb0
  have T0 := Lib.hid (hl.next hb0)
  have HH := Lib.hid (hh.next hb0)
  have hm2 := hh.few
  unfold maxLen at hm2
  unfold hO at hW
  have E0 := Lib.hid h0
  have h60d : decide ((60 : Int) < (m : Int)) = true := by simp; omega
  clear hb0 hl hh HH h0
  go_enter Try.func4, Try.ntmps4
  go_wp2_with fail
  rw [← hW]
  refine (awake10_any H _).mono ?_
  rintro e w1 ⟨rfl, hb⟩
  have HBq := Lib.hid (HB.out.trans (hb.mono HB.out.size))
  clear HB
  have HB := HBq
  clear HBq
  have T0q := Lib.hid (T0.out.next hb)
  clear T0
  have T0 := T0q
  clear T0q
  have BXq := Lib.hid (BX.out.next hb)
  clear BX
  have BX := BXq
  clear BXq
  clear hb
  clear hW
  go_wp2_with fail
  refine (short_b T0.out E0.out).mono ?_
  rintro e w2 ⟨rfl, hb⟩
  have HBq := Lib.hid (HB.out.trans (hb.mono HB.out.size))
  clear HB
  have HB := HBq
  clear HBq
  have T0q := Lib.hid (T0.out.next hb)
  clear T0
  have T0 := T0q
  clear T0q
  have BXq := Lib.hid (BX.out.next hb)
  clear BX
  have BX := BXq
  clear BXq
  clear hb
  have q0 := BX.out.c0
  have q1 := BX.out.c1
  have q2 := BX.out.c2
  have q3 := BX.out.c3
  go_wp2
  go_ret
  exact ⟨rfl, HB.out⟩

set_option maxRecDepth 100000 in
set_option maxHeartbeats 8000000 in
theorem heldApart_l2 (H : HeldOk) (A : Option Addr) (n c : Nat) (l : Tb) (t : Int) (A2 : Option Addr) (m c2 : Nat) (h : Hd) (w : World) (hl : TAsk w A n c l) (hh : HAsk w A2 m c2 h) (h0 : shortT l = true) (h60 : ¬ 60 < m) (hr : rightT l = false) :
    Calls Try.prog 4 #[.slice A n c, .int .i64 t, .agg #[.int .i64 h.id, .slice A2 m c2, .int .i64 h.frm, .int .i64 h.to]] w fun e w' => e = .returned (.bool true) ∧ Below w.heap.size w w' := by
  obtain ⟨W, hW⟩ : ∃ W, W = w.alloc (hO h A2 m c2) := ⟨_, rfl⟩
  have BX : Hid (BoxH W w.heap.size h A2 m c2) := Lib.hid (by rw [hW]; exact boxH_new w h A2 m c2)
  have hb0 : Below w.heap.size w W := by rw [hW]; exact (Below.refl _ _).alloc (Nat.le_refl _) _
  have HB := Lib.hid hb0
  have T0 := Lib.hid (hl.next hb0)
  have HH := Lib.hid (hh.next hb0)
  have hm2 := hh.few
  unfold maxLen at hm2
  unfold hO at hW
  have HSB := Lib.hid (short_is h0)
  have HL := Lib.hid hl.reads.len
  have hn30 : n ≤ 30 := by rw [← HL.out]; exact HSB.out.1
  have E0 := Lib.hid h0
  have F0 := Lib.hid (short_few' h0)
  have h60d : decide ((60 : Int) < (m : Int)) = false := by simp; omega
  have hmm : m ≤ 100 := by omega
  have HML := Lib.hid hh.reads.1
  have RT0 := Lib.hid hr
  clear hb0 hl hh h0 h60 hr
  go_enter Try.func4, Try.ntmps4
  go_wp2_with fail
  rw [← hW]
  refine (awake10_any H _).mono ?_
  rintro e w1 ⟨rfl, hb⟩
  have HBq := Lib.hid (HB.out.trans (hb.mono HB.out.size))
  clear HB
  have HB := HBq
  clear HBq
  have T0q := Lib.hid (T0.out.next hb)
  clear T0
  have T0 := T0q
  clear T0q
  have BXq := Lib.hid (BX.out.next hb)
  clear BX
  have BX := BXq
  clear BXq
  clear hb
  clear hW
  go_wp2_with fail
  refine (short_b T0.out E0.out).mono ?_
  rintro e w2 ⟨rfl, hb⟩
  have HBq := Lib.hid (HB.out.trans (hb.mono HB.out.size))
  clear HB
  have HB := HBq
  clear HBq
  have T0q := Lib.hid (T0.out.next hb)
  clear T0
  have T0 := T0q
  clear T0q
  have BXq := Lib.hid (BX.out.next hb)
  clear BX
  have BX := BXq
  clear BXq
  clear hb
  have q0 := BX.out.c0
  have q1 := BX.out.c1
  have q2 := BX.out.c2
  have q3 := BX.out.c3
  go_wp2_with fail
  refine (h10_right H T0.out F0.out RT0.out).mono ?_
  rintro e w3 ⟨rfl, hb⟩
  have HBq := Lib.hid (HB.out.trans (hb.mono HB.out.size))
  clear HB
  have HB := HBq
  clear HBq
  have T0q := Lib.hid (T0.out.next hb)
  clear T0
  have T0 := T0q
  clear T0q
  have BXq := Lib.hid (BX.out.next hb)
  clear BX
  have BX := BXq
  clear BXq
  clear hb
  clear q0 q1 q2 q3
  go_wp2
  go_ret
  exact ⟨rfl, HB.out⟩

set_option maxRecDepth 100000 in
set_option maxHeartbeats 8000000 in
theorem heldApart_n10 (H : HeldOk) (A : Option Addr) (n c : Nat) (l : Tb) (t : Int) (A2 : Option Addr) (m c2 : Nat) (h : Hd) (w : World) (hl : TAsk w A n c l) (hh : HAsk w A2 m c2 h) (h0 : shortT l = true) (h60 : ¬ 60 < m) (hr : rightT l = true) (ht : timeB t = false) (hy0 : m = 0) :
    Calls Try.prog 4 #[.slice A n c, .int .i64 t, .agg #[.int .i64 h.id, .slice A2 m c2, .int .i64 h.frm, .int .i64 h.to]] w fun e w' => e = .returned (.bool true) ∧ Below w.heap.size w w' := by
  obtain ⟨W, hW⟩ : ∃ W, W = w.alloc (hO h A2 m c2) := ⟨_, rfl⟩
  have BX : Hid (BoxH W w.heap.size h A2 m c2) := Lib.hid (by rw [hW]; exact boxH_new w h A2 m c2)
  have hb0 : Below w.heap.size w W := by rw [hW]; exact (Below.refl _ _).alloc (Nat.le_refl _) _
  have HB := Lib.hid hb0
  have T0 := Lib.hid (hl.next hb0)
  have HH := Lib.hid (hh.next hb0)
  have hm2 := hh.few
  unfold maxLen at hm2
  unfold hO at hW
  have HSB := Lib.hid (short_is h0)
  have HL := Lib.hid hl.reads.len
  have hn30 : n ≤ 30 := by rw [← HL.out]; exact HSB.out.1
  have E0 := Lib.hid h0
  have F0 := Lib.hid (short_few' h0)
  have h60d : decide ((60 : Int) < (m : Int)) = false := by simp; omega
  have hmm : m ≤ 100 := by omega
  have HML := Lib.hid hh.reads.1
  have TQ := Lib.hid ht
  clear ht
  have hmt := may_times h
  rw [hh.reads.1] at hmt
  have d0 : decide ((0 : Int) < (m : Int)) = false := by simp; omega
  have d0' : decide (0 < m) = false := by simp; omega
  rw [d0'] at hmt
  have _h60 := h60
  clear _h60
  have hE : addE l h = 1 := addE_bad hmt
  obtain ⟨gt, eg⟩ : ∃ b, gotT l h.id = b := ⟨_, rfl⟩
  have EG := Lib.hid eg
  obtain ⟨lt, et⟩ : ∃ r, addT l h = r := ⟨_, rfl⟩
  obtain ⟨x, ex⟩ : ∃ r, getT l h.id = r := ⟨_, rfl⟩
  have ET := Lib.hid et
  have EX := Lib.hid ex
  have EE := Lib.hid hE
  have RT0 := Lib.hid hr
  clear hb0 hl hh h0 h60 hr hmt et ex hE eg hy0
  go_enter Try.func4, Try.ntmps4
  go_wp2_with fail
  rw [← hW]
  refine (awake10_any H _).mono ?_
  rintro e w1 ⟨rfl, hb⟩
  have HBq := Lib.hid (HB.out.trans (hb.mono HB.out.size))
  clear HB
  have HB := HBq
  clear HBq
  have T0q := Lib.hid (T0.out.next hb)
  clear T0
  have T0 := T0q
  clear T0q
  have HHq := Lib.hid (HH.out.next hb)
  clear HH
  have HH := HHq
  clear HHq
  have BXq := Lib.hid (BX.out.next hb)
  clear BX
  have BX := BXq
  clear BXq
  clear hb
  clear hW
  go_wp2_with fail
  refine (short_b T0.out E0.out).mono ?_
  rintro e w2 ⟨rfl, hb⟩
  have HBq := Lib.hid (HB.out.trans (hb.mono HB.out.size))
  clear HB
  have HB := HBq
  clear HBq
  have T0q := Lib.hid (T0.out.next hb)
  clear T0
  have T0 := T0q
  clear T0q
  have HHq := Lib.hid (HH.out.next hb)
  clear HH
  have HH := HHq
  clear HHq
  have BXq := Lib.hid (BX.out.next hb)
  clear BX
  have BX := BXq
  clear BXq
  clear hb
  have q0 := BX.out.c0
  have q1 := BX.out.c1
  have q2 := BX.out.c2
  have q3 := BX.out.c3
  go_wp2_with fail
  refine (h10_right H T0.out F0.out RT0.out).mono ?_
  rintro e w3 ⟨rfl, hb⟩
  have HBq := Lib.hid (HB.out.trans (hb.mono HB.out.size))
  clear HB
  have HB := HBq
  clear HBq
  have T0q := Lib.hid (T0.out.next hb)
  clear T0
  have T0 := T0q
  clear T0q
  have HHq := Lib.hid (HH.out.next hb)
  clear HH
  have HH := HHq
  clear HHq
  have BXq := Lib.hid (BX.out.next hb)
  clear BX
  have BX := BXq
  clear BXq
  clear hb
  clear q0 q1 q2 q3
  go_wp2_with fail
  refine (time_b TQ.out).mono ?_
  rintro e w4 ⟨rfl, hb⟩
  have HBq := Lib.hid (HB.out.trans (hb.mono HB.out.size))
  clear HB
  have HB := HBq
  clear HBq
  have T0q := Lib.hid (T0.out.next hb)
  clear T0
  have T0 := T0q
  clear T0q
  have HHq := Lib.hid (HH.out.next hb)
  clear HH
  have HH := HHq
  clear HHq
  have BXq := Lib.hid (BX.out.next hb)
  clear BX
  have BX := BXq
  clear BXq
  clear hb
  have q0 := BX.out.c0
  have q1 := BX.out.c1
  have q2 := BX.out.c2
  have q3 := BX.out.c3
  go_wp2_with fail
  refine (h10_add H T0.out F0.out HH.out hmm ET.out EE.out).mono ?_
  rintro e w5 ⟨⟨A31, c31, rfl, hr31, hn31, hc31⟩, hb⟩
  have HBq := Lib.hid (HB.out.trans (hb.mono HB.out.size))
  clear HB
  have HB := HBq
  clear HBq
  have T0q := Lib.hid (T0.out.next hb)
  clear T0
  have T0 := T0q
  clear T0q
  have HHq := Lib.hid (HH.out.next hb)
  clear HH
  have HH := HHq
  clear HHq
  have BXq := Lib.hid (BX.out.next hb)
  clear BX
  have BX := BXq
  clear BXq
  clear hb
  clear hr31 hn31 hc31
  clear q0 q1 q2 q3
  have q0 := BX.out.c0
  have q1 := BX.out.c1
  have q2 := BX.out.c2
  have q3 := BX.out.c3
  go_wp2_with fail
  refine (h10_get H T0.out F0.out EX.out EG.out).mono ?_
  rintro e w6 ⟨⟨A32, m32, c32, rfl, hh32⟩, hb⟩
  have HBq := Lib.hid (HB.out.trans (hb.mono HB.out.size))
  clear HB
  have HB := HBq
  clear HBq
  have T0q := Lib.hid (T0.out.next hb)
  clear T0
  have T0 := T0q
  clear T0q
  have HHq := Lib.hid (HH.out.next hb)
  clear HH
  have HH := HHq
  clear HHq
  have BXq := Lib.hid (BX.out.next hb)
  clear BX
  have BX := BXq
  clear BXq
  clear hb
  clear hh32
  clear q0 q1 q2 q3
  have hb := Below.alloc (Below.refl w6.heap.size w6) (Nat.le_refl _) (.cells #[.int .i64 x.id, .slice A32 m32 c32, .int .i64 x.frm, .int .i64 x.to] 36)
  have HBq := Lib.hid (HB.out.trans (hb.mono HB.out.size))
  clear HB
  have HB := HBq
  clear HBq
  have T0q := Lib.hid (T0.out.next hb)
  clear T0
  have T0 := T0q
  clear T0q
  have HHq := Lib.hid (HH.out.next hb)
  clear HH
  have HH := HHq
  clear HHq
  have BXq := Lib.hid (BX.out.next hb)
  clear BX
  have BX := BXq
  clear BXq
  clear hb
  have q0 := BX.out.c0
  have q1 := BX.out.c1
  have q2 := BX.out.c2
  have q3 := BX.out.c3
  go_wp2
  go_ret
  exact ⟨rfl, HB.out⟩

set_option maxRecDepth 100000 in
set_option maxHeartbeats 8000000 in
theorem heldApart_n11 (H : HeldOk) (A : Option Addr) (n c : Nat) (l : Tb) (t : Int) (A2 : Option Addr) (m c2 : Nat) (h : Hd) (w : World) (hl : TAsk w A n c l) (hh : HAsk w A2 m c2 h) (h0 : shortT l = true) (h60 : ¬ 60 < m) (hr : rightT l = true) (ht : timeB t = false) (hy0 : 0 < m) (hy1 : rightB h.things = false) :
    Calls Try.prog 4 #[.slice A n c, .int .i64 t, .agg #[.int .i64 h.id, .slice A2 m c2, .int .i64 h.frm, .int .i64 h.to]] w fun e w' => e = .returned (.bool true) ∧ Below w.heap.size w w' := by
  obtain ⟨W, hW⟩ : ∃ W, W = w.alloc (hO h A2 m c2) := ⟨_, rfl⟩
  have BX : Hid (BoxH W w.heap.size h A2 m c2) := Lib.hid (by rw [hW]; exact boxH_new w h A2 m c2)
  have hb0 : Below w.heap.size w W := by rw [hW]; exact (Below.refl _ _).alloc (Nat.le_refl _) _
  have HB := Lib.hid hb0
  have T0 := Lib.hid (hl.next hb0)
  have HH := Lib.hid (hh.next hb0)
  have hm2 := hh.few
  unfold maxLen at hm2
  unfold hO at hW
  have HSB := Lib.hid (short_is h0)
  have HL := Lib.hid hl.reads.len
  have hn30 : n ≤ 30 := by rw [← HL.out]; exact HSB.out.1
  have E0 := Lib.hid h0
  have F0 := Lib.hid (short_few' h0)
  have h60d : decide ((60 : Int) < (m : Int)) = false := by simp; omega
  have hmm : m ≤ 100 := by omega
  have HML := Lib.hid hh.reads.1
  have TQ := Lib.hid ht
  clear ht
  have hmt := may_times h
  rw [hh.reads.1] at hmt
  have d0 : decide ((0 : Int) < (m : Int)) = true := by simp; omega
  have d0' : decide (0 < m) = true := by simp; omega
  rw [d0'] at hmt
  rw [hy1] at hmt
  have RR := Lib.hid hy1
  have hE : addE l h = 1 := addE_bad hmt
  obtain ⟨gt, eg⟩ : ∃ b, gotT l h.id = b := ⟨_, rfl⟩
  have EG := Lib.hid eg
  obtain ⟨lt, et⟩ : ∃ r, addT l h = r := ⟨_, rfl⟩
  obtain ⟨x, ex⟩ : ∃ r, getT l h.id = r := ⟨_, rfl⟩
  have ET := Lib.hid et
  have EX := Lib.hid ex
  have EE := Lib.hid hE
  have RT0 := Lib.hid hr
  clear hb0 hl hh h0 h60 hr hmt et ex hE eg hy0 hy1
  go_enter Try.func4, Try.ntmps4
  go_wp2_with fail
  rw [← hW]
  refine (awake10_any H _).mono ?_
  rintro e w1 ⟨rfl, hb⟩
  have HBq := Lib.hid (HB.out.trans (hb.mono HB.out.size))
  clear HB
  have HB := HBq
  clear HBq
  have T0q := Lib.hid (T0.out.next hb)
  clear T0
  have T0 := T0q
  clear T0q
  have HHq := Lib.hid (HH.out.next hb)
  clear HH
  have HH := HHq
  clear HHq
  have BXq := Lib.hid (BX.out.next hb)
  clear BX
  have BX := BXq
  clear BXq
  clear hb
  clear hW
  go_wp2_with fail
  refine (short_b T0.out E0.out).mono ?_
  rintro e w2 ⟨rfl, hb⟩
  have HBq := Lib.hid (HB.out.trans (hb.mono HB.out.size))
  clear HB
  have HB := HBq
  clear HBq
  have T0q := Lib.hid (T0.out.next hb)
  clear T0
  have T0 := T0q
  clear T0q
  have HHq := Lib.hid (HH.out.next hb)
  clear HH
  have HH := HHq
  clear HHq
  have BXq := Lib.hid (BX.out.next hb)
  clear BX
  have BX := BXq
  clear BXq
  clear hb
  have q0 := BX.out.c0
  have q1 := BX.out.c1
  have q2 := BX.out.c2
  have q3 := BX.out.c3
  go_wp2_with fail
  refine (h10_right H T0.out F0.out RT0.out).mono ?_
  rintro e w3 ⟨rfl, hb⟩
  have HBq := Lib.hid (HB.out.trans (hb.mono HB.out.size))
  clear HB
  have HB := HBq
  clear HBq
  have T0q := Lib.hid (T0.out.next hb)
  clear T0
  have T0 := T0q
  clear T0q
  have HHq := Lib.hid (HH.out.next hb)
  clear HH
  have HH := HHq
  clear HHq
  have BXq := Lib.hid (BX.out.next hb)
  clear BX
  have BX := BXq
  clear BXq
  clear hb
  clear q0 q1 q2 q3
  go_wp2_with fail
  refine (time_b TQ.out).mono ?_
  rintro e w4 ⟨rfl, hb⟩
  have HBq := Lib.hid (HB.out.trans (hb.mono HB.out.size))
  clear HB
  have HB := HBq
  clear HBq
  have T0q := Lib.hid (T0.out.next hb)
  clear T0
  have T0 := T0q
  clear T0q
  have HHq := Lib.hid (HH.out.next hb)
  clear HH
  have HH := HHq
  clear HHq
  have BXq := Lib.hid (BX.out.next hb)
  clear BX
  have BX := BXq
  clear BXq
  clear hb
  have q0 := BX.out.c0
  have q1 := BX.out.c1
  have q2 := BX.out.c2
  have q3 := BX.out.c3
  go_wp2_with fail
  refine (h10_add H T0.out F0.out HH.out hmm ET.out EE.out).mono ?_
  rintro e w5 ⟨⟨A31, c31, rfl, hr31, hn31, hc31⟩, hb⟩
  have HBq := Lib.hid (HB.out.trans (hb.mono HB.out.size))
  clear HB
  have HB := HBq
  clear HBq
  have T0q := Lib.hid (T0.out.next hb)
  clear T0
  have T0 := T0q
  clear T0q
  have HHq := Lib.hid (HH.out.next hb)
  clear HH
  have HH := HHq
  clear HHq
  have BXq := Lib.hid (BX.out.next hb)
  clear BX
  have BX := BXq
  clear BXq
  clear hb
  clear hr31 hn31 hc31
  clear q0 q1 q2 q3
  have q0 := BX.out.c0
  have q1 := BX.out.c1
  have q2 := BX.out.c2
  have q3 := BX.out.c3
  go_wp2_with fail
  refine (h10_get H T0.out F0.out EX.out EG.out).mono ?_
  rintro e w6 ⟨⟨A32, m32, c32, rfl, hh32⟩, hb⟩
  have HBq := Lib.hid (HB.out.trans (hb.mono HB.out.size))
  clear HB
  have HB := HBq
  clear HBq
  have T0q := Lib.hid (T0.out.next hb)
  clear T0
  have T0 := T0q
  clear T0q
  have HHq := Lib.hid (HH.out.next hb)
  clear HH
  have HH := HHq
  clear HHq
  have BXq := Lib.hid (BX.out.next hb)
  clear BX
  have BX := BXq
  clear BXq
  clear hb
  clear hh32
  clear q0 q1 q2 q3
  have hb := Below.alloc (Below.refl w6.heap.size w6) (Nat.le_refl _) (.cells #[.int .i64 x.id, .slice A32 m32 c32, .int .i64 x.frm, .int .i64 x.to] 36)
  have HBq := Lib.hid (HB.out.trans (hb.mono HB.out.size))
  clear HB
  have HB := HBq
  clear HBq
  have T0q := Lib.hid (T0.out.next hb)
  clear T0
  have T0 := T0q
  clear T0q
  have HHq := Lib.hid (HH.out.next hb)
  clear HH
  have HH := HHq
  clear HHq
  have BXq := Lib.hid (BX.out.next hb)
  clear BX
  have BX := BXq
  clear BXq
  clear hb
  have q0 := BX.out.c0
  have q1 := BX.out.c1
  have q2 := BX.out.c2
  have q3 := BX.out.c3
  go_wp2_with fail
  refine (s_isSet HH.out.reads HH.out.few RR.out).mono ?_
  rintro e w7 ⟨rfl, hb⟩
  have HBq := Lib.hid (HB.out.trans (hb.mono HB.out.size))
  clear HB
  have HB := HBq
  clear HBq
  have T0q := Lib.hid (T0.out.next hb)
  clear T0
  have T0 := T0q
  clear T0q
  have HHq := Lib.hid (HH.out.next hb)
  clear HH
  have HH := HHq
  clear HHq
  have BXq := Lib.hid (BX.out.next hb)
  clear BX
  have BX := BXq
  clear BXq
  clear hb
  clear q0 q1 q2 q3
  have q0 := BX.out.c0
  have q1 := BX.out.c1
  have q2 := BX.out.c2
  have q3 := BX.out.c3
  go_wp2
  go_ret
  exact ⟨rfl, HB.out⟩

set_option maxRecDepth 100000 in
set_option maxHeartbeats 8000000 in
theorem heldApart_n12 (H : HeldOk) (A : Option Addr) (n c : Nat) (l : Tb) (t : Int) (A2 : Option Addr) (m c2 : Nat) (h : Hd) (w : World) (hl : TAsk w A n c l) (hh : HAsk w A2 m c2 h) (h0 : shortT l = true) (h60 : ¬ 60 < m) (hr : rightT l = true) (ht : timeB t = false) (hy0 : 0 < m) (hy1 : rightB h.things = true) (hy2 : timeB h.frm = false) :
    Calls Try.prog 4 #[.slice A n c, .int .i64 t, .agg #[.int .i64 h.id, .slice A2 m c2, .int .i64 h.frm, .int .i64 h.to]] w fun e w' => e = .returned (.bool true) ∧ Below w.heap.size w w' := by
  obtain ⟨W, hW⟩ : ∃ W, W = w.alloc (hO h A2 m c2) := ⟨_, rfl⟩
  have BX : Hid (BoxH W w.heap.size h A2 m c2) := Lib.hid (by rw [hW]; exact boxH_new w h A2 m c2)
  have hb0 : Below w.heap.size w W := by rw [hW]; exact (Below.refl _ _).alloc (Nat.le_refl _) _
  have HB := Lib.hid hb0
  have T0 := Lib.hid (hl.next hb0)
  have HH := Lib.hid (hh.next hb0)
  have hm2 := hh.few
  unfold maxLen at hm2
  unfold hO at hW
  have HSB := Lib.hid (short_is h0)
  have HL := Lib.hid hl.reads.len
  have hn30 : n ≤ 30 := by rw [← HL.out]; exact HSB.out.1
  have E0 := Lib.hid h0
  have F0 := Lib.hid (short_few' h0)
  have h60d : decide ((60 : Int) < (m : Int)) = false := by simp; omega
  have hmm : m ≤ 100 := by omega
  have HML := Lib.hid hh.reads.1
  have TQ := Lib.hid ht
  clear ht
  have hmt := may_times h
  rw [hh.reads.1] at hmt
  have d0 : decide ((0 : Int) < (m : Int)) = true := by simp; omega
  have d0' : decide (0 < m) = true := by simp; omega
  rw [d0'] at hmt
  rw [hy1] at hmt
  have RR := Lib.hid hy1
  rw [hy2] at hmt
  have TF := Lib.hid hy2
  have hE : addE l h = 1 := addE_bad hmt
  obtain ⟨gt, eg⟩ : ∃ b, gotT l h.id = b := ⟨_, rfl⟩
  have EG := Lib.hid eg
  obtain ⟨lt, et⟩ : ∃ r, addT l h = r := ⟨_, rfl⟩
  obtain ⟨x, ex⟩ : ∃ r, getT l h.id = r := ⟨_, rfl⟩
  have ET := Lib.hid et
  have EX := Lib.hid ex
  have EE := Lib.hid hE
  have RT0 := Lib.hid hr
  clear hb0 hl hh h0 h60 hr hmt et ex hE eg hy0 hy1 hy2
  go_enter Try.func4, Try.ntmps4
  go_wp2_with fail
  rw [← hW]
  refine (awake10_any H _).mono ?_
  rintro e w1 ⟨rfl, hb⟩
  have HBq := Lib.hid (HB.out.trans (hb.mono HB.out.size))
  clear HB
  have HB := HBq
  clear HBq
  have T0q := Lib.hid (T0.out.next hb)
  clear T0
  have T0 := T0q
  clear T0q
  have HHq := Lib.hid (HH.out.next hb)
  clear HH
  have HH := HHq
  clear HHq
  have BXq := Lib.hid (BX.out.next hb)
  clear BX
  have BX := BXq
  clear BXq
  clear hb
  clear hW
  go_wp2_with fail
  refine (short_b T0.out E0.out).mono ?_
  rintro e w2 ⟨rfl, hb⟩
  have HBq := Lib.hid (HB.out.trans (hb.mono HB.out.size))
  clear HB
  have HB := HBq
  clear HBq
  have T0q := Lib.hid (T0.out.next hb)
  clear T0
  have T0 := T0q
  clear T0q
  have HHq := Lib.hid (HH.out.next hb)
  clear HH
  have HH := HHq
  clear HHq
  have BXq := Lib.hid (BX.out.next hb)
  clear BX
  have BX := BXq
  clear BXq
  clear hb
  have q0 := BX.out.c0
  have q1 := BX.out.c1
  have q2 := BX.out.c2
  have q3 := BX.out.c3
  go_wp2_with fail
  refine (h10_right H T0.out F0.out RT0.out).mono ?_
  rintro e w3 ⟨rfl, hb⟩
  have HBq := Lib.hid (HB.out.trans (hb.mono HB.out.size))
  clear HB
  have HB := HBq
  clear HBq
  have T0q := Lib.hid (T0.out.next hb)
  clear T0
  have T0 := T0q
  clear T0q
  have HHq := Lib.hid (HH.out.next hb)
  clear HH
  have HH := HHq
  clear HHq
  have BXq := Lib.hid (BX.out.next hb)
  clear BX
  have BX := BXq
  clear BXq
  clear hb
  clear q0 q1 q2 q3
  go_wp2_with fail
  refine (time_b TQ.out).mono ?_
  rintro e w4 ⟨rfl, hb⟩
  have HBq := Lib.hid (HB.out.trans (hb.mono HB.out.size))
  clear HB
  have HB := HBq
  clear HBq
  have T0q := Lib.hid (T0.out.next hb)
  clear T0
  have T0 := T0q
  clear T0q
  have HHq := Lib.hid (HH.out.next hb)
  clear HH
  have HH := HHq
  clear HHq
  have BXq := Lib.hid (BX.out.next hb)
  clear BX
  have BX := BXq
  clear BXq
  clear hb
  have q0 := BX.out.c0
  have q1 := BX.out.c1
  have q2 := BX.out.c2
  have q3 := BX.out.c3
  go_wp2_with fail
  refine (h10_add H T0.out F0.out HH.out hmm ET.out EE.out).mono ?_
  rintro e w5 ⟨⟨A31, c31, rfl, hr31, hn31, hc31⟩, hb⟩
  have HBq := Lib.hid (HB.out.trans (hb.mono HB.out.size))
  clear HB
  have HB := HBq
  clear HBq
  have T0q := Lib.hid (T0.out.next hb)
  clear T0
  have T0 := T0q
  clear T0q
  have HHq := Lib.hid (HH.out.next hb)
  clear HH
  have HH := HHq
  clear HHq
  have BXq := Lib.hid (BX.out.next hb)
  clear BX
  have BX := BXq
  clear BXq
  clear hb
  clear hr31 hn31 hc31
  clear q0 q1 q2 q3
  have q0 := BX.out.c0
  have q1 := BX.out.c1
  have q2 := BX.out.c2
  have q3 := BX.out.c3
  go_wp2_with fail
  refine (h10_get H T0.out F0.out EX.out EG.out).mono ?_
  rintro e w6 ⟨⟨A32, m32, c32, rfl, hh32⟩, hb⟩
  have HBq := Lib.hid (HB.out.trans (hb.mono HB.out.size))
  clear HB
  have HB := HBq
  clear HBq
  have T0q := Lib.hid (T0.out.next hb)
  clear T0
  have T0 := T0q
  clear T0q
  have HHq := Lib.hid (HH.out.next hb)
  clear HH
  have HH := HHq
  clear HHq
  have BXq := Lib.hid (BX.out.next hb)
  clear BX
  have BX := BXq
  clear BXq
  clear hb
  clear hh32
  clear q0 q1 q2 q3
  have hb := Below.alloc (Below.refl w6.heap.size w6) (Nat.le_refl _) (.cells #[.int .i64 x.id, .slice A32 m32 c32, .int .i64 x.frm, .int .i64 x.to] 36)
  have HBq := Lib.hid (HB.out.trans (hb.mono HB.out.size))
  clear HB
  have HB := HBq
  clear HBq
  have T0q := Lib.hid (T0.out.next hb)
  clear T0
  have T0 := T0q
  clear T0q
  have HHq := Lib.hid (HH.out.next hb)
  clear HH
  have HH := HHq
  clear HHq
  have BXq := Lib.hid (BX.out.next hb)
  clear BX
  have BX := BXq
  clear BXq
  clear hb
  have q0 := BX.out.c0
  have q1 := BX.out.c1
  have q2 := BX.out.c2
  have q3 := BX.out.c3
  go_wp2_with fail
  refine (s_isSet HH.out.reads HH.out.few RR.out).mono ?_
  rintro e w7 ⟨rfl, hb⟩
  have HBq := Lib.hid (HB.out.trans (hb.mono HB.out.size))
  clear HB
  have HB := HBq
  clear HBq
  have T0q := Lib.hid (T0.out.next hb)
  clear T0
  have T0 := T0q
  clear T0q
  have HHq := Lib.hid (HH.out.next hb)
  clear HH
  have HH := HHq
  clear HHq
  have BXq := Lib.hid (BX.out.next hb)
  clear BX
  have BX := BXq
  clear BXq
  clear hb
  clear q0 q1 q2 q3
  have q0 := BX.out.c0
  have q1 := BX.out.c1
  have q2 := BX.out.c2
  have q3 := BX.out.c3
  go_wp2_with fail
  refine (time_b TF.out).mono ?_
  rintro e w8 ⟨rfl, hb⟩
  have HBq := Lib.hid (HB.out.trans (hb.mono HB.out.size))
  clear HB
  have HB := HBq
  clear HBq
  have T0q := Lib.hid (T0.out.next hb)
  clear T0
  have T0 := T0q
  clear T0q
  have HHq := Lib.hid (HH.out.next hb)
  clear HH
  have HH := HHq
  clear HHq
  have BXq := Lib.hid (BX.out.next hb)
  clear BX
  have BX := BXq
  clear BXq
  clear hb
  clear q0 q1 q2 q3
  have q0 := BX.out.c0
  have q1 := BX.out.c1
  have q2 := BX.out.c2
  have q3 := BX.out.c3
  go_wp2
  go_ret
  exact ⟨rfl, HB.out⟩

set_option maxRecDepth 100000 in
set_option maxHeartbeats 8000000 in
theorem heldApart_n13 (H : HeldOk) (A : Option Addr) (n c : Nat) (l : Tb) (t : Int) (A2 : Option Addr) (m c2 : Nat) (h : Hd) (w : World) (hl : TAsk w A n c l) (hh : HAsk w A2 m c2 h) (h0 : shortT l = true) (h60 : ¬ 60 < m) (hr : rightT l = true) (ht : timeB t = false) (hy0 : 0 < m) (hy1 : rightB h.things = true) (hy2 : timeB h.frm = true) (hy3 : timeB h.to = false) :
    Calls Try.prog 4 #[.slice A n c, .int .i64 t, .agg #[.int .i64 h.id, .slice A2 m c2, .int .i64 h.frm, .int .i64 h.to]] w fun e w' => e = .returned (.bool true) ∧ Below w.heap.size w w' := by
  obtain ⟨W, hW⟩ : ∃ W, W = w.alloc (hO h A2 m c2) := ⟨_, rfl⟩
  have BX : Hid (BoxH W w.heap.size h A2 m c2) := Lib.hid (by rw [hW]; exact boxH_new w h A2 m c2)
  have hb0 : Below w.heap.size w W := by rw [hW]; exact (Below.refl _ _).alloc (Nat.le_refl _) _
  have HB := Lib.hid hb0
  have T0 := Lib.hid (hl.next hb0)
  have HH := Lib.hid (hh.next hb0)
  have hm2 := hh.few
  unfold maxLen at hm2
  unfold hO at hW
  have HSB := Lib.hid (short_is h0)
  have HL := Lib.hid hl.reads.len
  have hn30 : n ≤ 30 := by rw [← HL.out]; exact HSB.out.1
  have E0 := Lib.hid h0
  have F0 := Lib.hid (short_few' h0)
  have h60d : decide ((60 : Int) < (m : Int)) = false := by simp; omega
  have hmm : m ≤ 100 := by omega
  have HML := Lib.hid hh.reads.1
  have TQ := Lib.hid ht
  clear ht
  have hmt := may_times h
  rw [hh.reads.1] at hmt
  have d0 : decide ((0 : Int) < (m : Int)) = true := by simp; omega
  have d0' : decide (0 < m) = true := by simp; omega
  rw [d0'] at hmt
  rw [hy1] at hmt
  have RR := Lib.hid hy1
  rw [hy2] at hmt
  have TF := Lib.hid hy2
  rw [hy3] at hmt
  have TO := Lib.hid hy3
  have hE : addE l h = 1 := addE_bad hmt
  obtain ⟨gt, eg⟩ : ∃ b, gotT l h.id = b := ⟨_, rfl⟩
  have EG := Lib.hid eg
  obtain ⟨lt, et⟩ : ∃ r, addT l h = r := ⟨_, rfl⟩
  obtain ⟨x, ex⟩ : ∃ r, getT l h.id = r := ⟨_, rfl⟩
  have ET := Lib.hid et
  have EX := Lib.hid ex
  have EE := Lib.hid hE
  have RT0 := Lib.hid hr
  clear hb0 hl hh h0 h60 hr hmt et ex hE eg hy0 hy1 hy2 hy3
  go_enter Try.func4, Try.ntmps4
  go_wp2_with fail
  rw [← hW]
  refine (awake10_any H _).mono ?_
  rintro e w1 ⟨rfl, hb⟩
  have HBq := Lib.hid (HB.out.trans (hb.mono HB.out.size))
  clear HB
  have HB := HBq
  clear HBq
  have T0q := Lib.hid (T0.out.next hb)
  clear T0
  have T0 := T0q
  clear T0q
  have HHq := Lib.hid (HH.out.next hb)
  clear HH
  have HH := HHq
  clear HHq
  have BXq := Lib.hid (BX.out.next hb)
  clear BX
  have BX := BXq
  clear BXq
  clear hb
  clear hW
  go_wp2_with fail
  refine (short_b T0.out E0.out).mono ?_
  rintro e w2 ⟨rfl, hb⟩
  have HBq := Lib.hid (HB.out.trans (hb.mono HB.out.size))
  clear HB
  have HB := HBq
  clear HBq
  have T0q := Lib.hid (T0.out.next hb)
  clear T0
  have T0 := T0q
  clear T0q
  have HHq := Lib.hid (HH.out.next hb)
  clear HH
  have HH := HHq
  clear HHq
  have BXq := Lib.hid (BX.out.next hb)
  clear BX
  have BX := BXq
  clear BXq
  clear hb
  have q0 := BX.out.c0
  have q1 := BX.out.c1
  have q2 := BX.out.c2
  have q3 := BX.out.c3
  go_wp2_with fail
  refine (h10_right H T0.out F0.out RT0.out).mono ?_
  rintro e w3 ⟨rfl, hb⟩
  have HBq := Lib.hid (HB.out.trans (hb.mono HB.out.size))
  clear HB
  have HB := HBq
  clear HBq
  have T0q := Lib.hid (T0.out.next hb)
  clear T0
  have T0 := T0q
  clear T0q
  have HHq := Lib.hid (HH.out.next hb)
  clear HH
  have HH := HHq
  clear HHq
  have BXq := Lib.hid (BX.out.next hb)
  clear BX
  have BX := BXq
  clear BXq
  clear hb
  clear q0 q1 q2 q3
  go_wp2_with fail
  refine (time_b TQ.out).mono ?_
  rintro e w4 ⟨rfl, hb⟩
  have HBq := Lib.hid (HB.out.trans (hb.mono HB.out.size))
  clear HB
  have HB := HBq
  clear HBq
  have T0q := Lib.hid (T0.out.next hb)
  clear T0
  have T0 := T0q
  clear T0q
  have HHq := Lib.hid (HH.out.next hb)
  clear HH
  have HH := HHq
  clear HHq
  have BXq := Lib.hid (BX.out.next hb)
  clear BX
  have BX := BXq
  clear BXq
  clear hb
  have q0 := BX.out.c0
  have q1 := BX.out.c1
  have q2 := BX.out.c2
  have q3 := BX.out.c3
  go_wp2_with fail
  refine (h10_add H T0.out F0.out HH.out hmm ET.out EE.out).mono ?_
  rintro e w5 ⟨⟨A31, c31, rfl, hr31, hn31, hc31⟩, hb⟩
  have HBq := Lib.hid (HB.out.trans (hb.mono HB.out.size))
  clear HB
  have HB := HBq
  clear HBq
  have T0q := Lib.hid (T0.out.next hb)
  clear T0
  have T0 := T0q
  clear T0q
  have HHq := Lib.hid (HH.out.next hb)
  clear HH
  have HH := HHq
  clear HHq
  have BXq := Lib.hid (BX.out.next hb)
  clear BX
  have BX := BXq
  clear BXq
  clear hb
  clear hr31 hn31 hc31
  clear q0 q1 q2 q3
  have q0 := BX.out.c0
  have q1 := BX.out.c1
  have q2 := BX.out.c2
  have q3 := BX.out.c3
  go_wp2_with fail
  refine (h10_get H T0.out F0.out EX.out EG.out).mono ?_
  rintro e w6 ⟨⟨A32, m32, c32, rfl, hh32⟩, hb⟩
  have HBq := Lib.hid (HB.out.trans (hb.mono HB.out.size))
  clear HB
  have HB := HBq
  clear HBq
  have T0q := Lib.hid (T0.out.next hb)
  clear T0
  have T0 := T0q
  clear T0q
  have HHq := Lib.hid (HH.out.next hb)
  clear HH
  have HH := HHq
  clear HHq
  have BXq := Lib.hid (BX.out.next hb)
  clear BX
  have BX := BXq
  clear BXq
  clear hb
  clear hh32
  clear q0 q1 q2 q3
  have hb := Below.alloc (Below.refl w6.heap.size w6) (Nat.le_refl _) (.cells #[.int .i64 x.id, .slice A32 m32 c32, .int .i64 x.frm, .int .i64 x.to] 36)
  have HBq := Lib.hid (HB.out.trans (hb.mono HB.out.size))
  clear HB
  have HB := HBq
  clear HBq
  have T0q := Lib.hid (T0.out.next hb)
  clear T0
  have T0 := T0q
  clear T0q
  have HHq := Lib.hid (HH.out.next hb)
  clear HH
  have HH := HHq
  clear HHq
  have BXq := Lib.hid (BX.out.next hb)
  clear BX
  have BX := BXq
  clear BXq
  clear hb
  have q0 := BX.out.c0
  have q1 := BX.out.c1
  have q2 := BX.out.c2
  have q3 := BX.out.c3
  go_wp2_with fail
  refine (s_isSet HH.out.reads HH.out.few RR.out).mono ?_
  rintro e w7 ⟨rfl, hb⟩
  have HBq := Lib.hid (HB.out.trans (hb.mono HB.out.size))
  clear HB
  have HB := HBq
  clear HBq
  have T0q := Lib.hid (T0.out.next hb)
  clear T0
  have T0 := T0q
  clear T0q
  have HHq := Lib.hid (HH.out.next hb)
  clear HH
  have HH := HHq
  clear HHq
  have BXq := Lib.hid (BX.out.next hb)
  clear BX
  have BX := BXq
  clear BXq
  clear hb
  clear q0 q1 q2 q3
  have q0 := BX.out.c0
  have q1 := BX.out.c1
  have q2 := BX.out.c2
  have q3 := BX.out.c3
  go_wp2_with fail
  refine (time_b TF.out).mono ?_
  rintro e w8 ⟨rfl, hb⟩
  have HBq := Lib.hid (HB.out.trans (hb.mono HB.out.size))
  clear HB
  have HB := HBq
  clear HBq
  have T0q := Lib.hid (T0.out.next hb)
  clear T0
  have T0 := T0q
  clear T0q
  have HHq := Lib.hid (HH.out.next hb)
  clear HH
  have HH := HHq
  clear HHq
  have BXq := Lib.hid (BX.out.next hb)
  clear BX
  have BX := BXq
  clear BXq
  clear hb
  clear q0 q1 q2 q3
  have q0 := BX.out.c0
  have q1 := BX.out.c1
  have q2 := BX.out.c2
  have q3 := BX.out.c3
  go_wp2_with fail
  refine (time_b TO.out).mono ?_
  rintro e w9 ⟨rfl, hb⟩
  have HBq := Lib.hid (HB.out.trans (hb.mono HB.out.size))
  clear HB
  have HB := HBq
  clear HBq
  have T0q := Lib.hid (T0.out.next hb)
  clear T0
  have T0 := T0q
  clear T0q
  have HHq := Lib.hid (HH.out.next hb)
  clear HH
  have HH := HHq
  clear HHq
  have BXq := Lib.hid (BX.out.next hb)
  clear BX
  have BX := BXq
  clear BXq
  clear hb
  clear q0 q1 q2 q3
  have q0 := BX.out.c0
  have q1 := BX.out.c1
  have q2 := BX.out.c2
  have q3 := BX.out.c3
  go_wp2
  go_ret
  exact ⟨rfl, HB.out⟩

set_option maxRecDepth 100000 in
set_option maxHeartbeats 8000000 in
theorem heldApart_n14 (H : HeldOk) (A : Option Addr) (n c : Nat) (l : Tb) (t : Int) (A2 : Option Addr) (m c2 : Nat) (h : Hd) (w : World) (hl : TAsk w A n c l) (hh : HAsk w A2 m c2 h) (h0 : shortT l = true) (h60 : ¬ 60 < m) (hr : rightT l = true) (ht : timeB t = false) (hy0 : 0 < m) (hy1 : rightB h.things = true) (hy2 : timeB h.frm = true) (hy3 : timeB h.to = true) (hy4 : ¬ h.frm < h.to) :
    Calls Try.prog 4 #[.slice A n c, .int .i64 t, .agg #[.int .i64 h.id, .slice A2 m c2, .int .i64 h.frm, .int .i64 h.to]] w fun e w' => e = .returned (.bool true) ∧ Below w.heap.size w w' := by
  obtain ⟨W, hW⟩ : ∃ W, W = w.alloc (hO h A2 m c2) := ⟨_, rfl⟩
  have BX : Hid (BoxH W w.heap.size h A2 m c2) := Lib.hid (by rw [hW]; exact boxH_new w h A2 m c2)
  have hb0 : Below w.heap.size w W := by rw [hW]; exact (Below.refl _ _).alloc (Nat.le_refl _) _
  have HB := Lib.hid hb0
  have T0 := Lib.hid (hl.next hb0)
  have HH := Lib.hid (hh.next hb0)
  have hm2 := hh.few
  unfold maxLen at hm2
  unfold hO at hW
  have HSB := Lib.hid (short_is h0)
  have HL := Lib.hid hl.reads.len
  have hn30 : n ≤ 30 := by rw [← HL.out]; exact HSB.out.1
  have E0 := Lib.hid h0
  have F0 := Lib.hid (short_few' h0)
  have h60d : decide ((60 : Int) < (m : Int)) = false := by simp; omega
  have hmm : m ≤ 100 := by omega
  have HML := Lib.hid hh.reads.1
  have TQ := Lib.hid ht
  clear ht
  have hmt := may_times h
  rw [hh.reads.1] at hmt
  have d0 : decide ((0 : Int) < (m : Int)) = true := by simp; omega
  have d0' : decide (0 < m) = true := by simp; omega
  rw [d0'] at hmt
  rw [hy1] at hmt
  have RR := Lib.hid hy1
  rw [hy2] at hmt
  have TF := Lib.hid hy2
  rw [hy3] at hmt
  have TO := Lib.hid hy3
  have d4 : decide (h.frm < h.to) = false := decide_eq_false hy4
  rw [d4] at hmt
  have hE : addE l h = 1 := addE_bad hmt
  obtain ⟨gt, eg⟩ : ∃ b, gotT l h.id = b := ⟨_, rfl⟩
  have EG := Lib.hid eg
  obtain ⟨lt, et⟩ : ∃ r, addT l h = r := ⟨_, rfl⟩
  obtain ⟨x, ex⟩ : ∃ r, getT l h.id = r := ⟨_, rfl⟩
  have ET := Lib.hid et
  have EX := Lib.hid ex
  have EE := Lib.hid hE
  have RT0 := Lib.hid hr
  clear hb0 hl hh h0 h60 hr hmt et ex hE eg hy0 hy1 hy2 hy3 hy4
  go_enter Try.func4, Try.ntmps4
  go_wp2_with fail
  rw [← hW]
  refine (awake10_any H _).mono ?_
  rintro e w1 ⟨rfl, hb⟩
  have HBq := Lib.hid (HB.out.trans (hb.mono HB.out.size))
  clear HB
  have HB := HBq
  clear HBq
  have T0q := Lib.hid (T0.out.next hb)
  clear T0
  have T0 := T0q
  clear T0q
  have HHq := Lib.hid (HH.out.next hb)
  clear HH
  have HH := HHq
  clear HHq
  have BXq := Lib.hid (BX.out.next hb)
  clear BX
  have BX := BXq
  clear BXq
  clear hb
  clear hW
  go_wp2_with fail
  refine (short_b T0.out E0.out).mono ?_
  rintro e w2 ⟨rfl, hb⟩
  have HBq := Lib.hid (HB.out.trans (hb.mono HB.out.size))
  clear HB
  have HB := HBq
  clear HBq
  have T0q := Lib.hid (T0.out.next hb)
  clear T0
  have T0 := T0q
  clear T0q
  have HHq := Lib.hid (HH.out.next hb)
  clear HH
  have HH := HHq
  clear HHq
  have BXq := Lib.hid (BX.out.next hb)
  clear BX
  have BX := BXq
  clear BXq
  clear hb
  have q0 := BX.out.c0
  have q1 := BX.out.c1
  have q2 := BX.out.c2
  have q3 := BX.out.c3
  go_wp2_with fail
  refine (h10_right H T0.out F0.out RT0.out).mono ?_
  rintro e w3 ⟨rfl, hb⟩
  have HBq := Lib.hid (HB.out.trans (hb.mono HB.out.size))
  clear HB
  have HB := HBq
  clear HBq
  have T0q := Lib.hid (T0.out.next hb)
  clear T0
  have T0 := T0q
  clear T0q
  have HHq := Lib.hid (HH.out.next hb)
  clear HH
  have HH := HHq
  clear HHq
  have BXq := Lib.hid (BX.out.next hb)
  clear BX
  have BX := BXq
  clear BXq
  clear hb
  clear q0 q1 q2 q3
  go_wp2_with fail
  refine (time_b TQ.out).mono ?_
  rintro e w4 ⟨rfl, hb⟩
  have HBq := Lib.hid (HB.out.trans (hb.mono HB.out.size))
  clear HB
  have HB := HBq
  clear HBq
  have T0q := Lib.hid (T0.out.next hb)
  clear T0
  have T0 := T0q
  clear T0q
  have HHq := Lib.hid (HH.out.next hb)
  clear HH
  have HH := HHq
  clear HHq
  have BXq := Lib.hid (BX.out.next hb)
  clear BX
  have BX := BXq
  clear BXq
  clear hb
  have q0 := BX.out.c0
  have q1 := BX.out.c1
  have q2 := BX.out.c2
  have q3 := BX.out.c3
  go_wp2_with fail
  refine (h10_add H T0.out F0.out HH.out hmm ET.out EE.out).mono ?_
  rintro e w5 ⟨⟨A31, c31, rfl, hr31, hn31, hc31⟩, hb⟩
  have HBq := Lib.hid (HB.out.trans (hb.mono HB.out.size))
  clear HB
  have HB := HBq
  clear HBq
  have T0q := Lib.hid (T0.out.next hb)
  clear T0
  have T0 := T0q
  clear T0q
  have HHq := Lib.hid (HH.out.next hb)
  clear HH
  have HH := HHq
  clear HHq
  have BXq := Lib.hid (BX.out.next hb)
  clear BX
  have BX := BXq
  clear BXq
  clear hb
  clear hr31 hn31 hc31
  clear q0 q1 q2 q3
  have q0 := BX.out.c0
  have q1 := BX.out.c1
  have q2 := BX.out.c2
  have q3 := BX.out.c3
  go_wp2_with fail
  refine (h10_get H T0.out F0.out EX.out EG.out).mono ?_
  rintro e w6 ⟨⟨A32, m32, c32, rfl, hh32⟩, hb⟩
  have HBq := Lib.hid (HB.out.trans (hb.mono HB.out.size))
  clear HB
  have HB := HBq
  clear HBq
  have T0q := Lib.hid (T0.out.next hb)
  clear T0
  have T0 := T0q
  clear T0q
  have HHq := Lib.hid (HH.out.next hb)
  clear HH
  have HH := HHq
  clear HHq
  have BXq := Lib.hid (BX.out.next hb)
  clear BX
  have BX := BXq
  clear BXq
  clear hb
  clear hh32
  clear q0 q1 q2 q3
  have hb := Below.alloc (Below.refl w6.heap.size w6) (Nat.le_refl _) (.cells #[.int .i64 x.id, .slice A32 m32 c32, .int .i64 x.frm, .int .i64 x.to] 36)
  have HBq := Lib.hid (HB.out.trans (hb.mono HB.out.size))
  clear HB
  have HB := HBq
  clear HBq
  have T0q := Lib.hid (T0.out.next hb)
  clear T0
  have T0 := T0q
  clear T0q
  have HHq := Lib.hid (HH.out.next hb)
  clear HH
  have HH := HHq
  clear HHq
  have BXq := Lib.hid (BX.out.next hb)
  clear BX
  have BX := BXq
  clear BXq
  clear hb
  have q0 := BX.out.c0
  have q1 := BX.out.c1
  have q2 := BX.out.c2
  have q3 := BX.out.c3
  go_wp2_with fail
  refine (s_isSet HH.out.reads HH.out.few RR.out).mono ?_
  rintro e w7 ⟨rfl, hb⟩
  have HBq := Lib.hid (HB.out.trans (hb.mono HB.out.size))
  clear HB
  have HB := HBq
  clear HBq
  have T0q := Lib.hid (T0.out.next hb)
  clear T0
  have T0 := T0q
  clear T0q
  have HHq := Lib.hid (HH.out.next hb)
  clear HH
  have HH := HHq
  clear HHq
  have BXq := Lib.hid (BX.out.next hb)
  clear BX
  have BX := BXq
  clear BXq
  clear hb
  clear q0 q1 q2 q3
  have q0 := BX.out.c0
  have q1 := BX.out.c1
  have q2 := BX.out.c2
  have q3 := BX.out.c3
  go_wp2_with fail
  refine (time_b TF.out).mono ?_
  rintro e w8 ⟨rfl, hb⟩
  have HBq := Lib.hid (HB.out.trans (hb.mono HB.out.size))
  clear HB
  have HB := HBq
  clear HBq
  have T0q := Lib.hid (T0.out.next hb)
  clear T0
  have T0 := T0q
  clear T0q
  have HHq := Lib.hid (HH.out.next hb)
  clear HH
  have HH := HHq
  clear HHq
  have BXq := Lib.hid (BX.out.next hb)
  clear BX
  have BX := BXq
  clear BXq
  clear hb
  clear q0 q1 q2 q3
  have q0 := BX.out.c0
  have q1 := BX.out.c1
  have q2 := BX.out.c2
  have q3 := BX.out.c3
  go_wp2_with fail
  refine (time_b TO.out).mono ?_
  rintro e w9 ⟨rfl, hb⟩
  have HBq := Lib.hid (HB.out.trans (hb.mono HB.out.size))
  clear HB
  have HB := HBq
  clear HBq
  have T0q := Lib.hid (T0.out.next hb)
  clear T0
  have T0 := T0q
  clear T0q
  have HHq := Lib.hid (HH.out.next hb)
  clear HH
  have HH := HHq
  clear HHq
  have BXq := Lib.hid (BX.out.next hb)
  clear BX
  have BX := BXq
  clear BXq
  clear hb
  clear q0 q1 q2 q3
  have q0 := BX.out.c0
  have q1 := BX.out.c1
  have q2 := BX.out.c2
  have q3 := BX.out.c3
  go_wp2
  go_ret
  exact ⟨rfl, HB.out⟩

set_option maxRecDepth 100000 in
set_option maxHeartbeats 8000000 in
theorem heldApart_n15 (H : HeldOk) (A : Option Addr) (n c : Nat) (l : Tb) (t : Int) (A2 : Option Addr) (m c2 : Nat) (h : Hd) (w : World) (hl : TAsk w A n c l) (hh : HAsk w A2 m c2 h) (h0 : shortT l = true) (h60 : ¬ 60 < m) (hr : rightT l = true) (ht : timeB t = false) (hy0 : 0 < m) (hy1 : rightB h.things = true) (hy2 : timeB h.frm = true) (hy3 : timeB h.to = true) (hy4 : h.frm < h.to) (hy5 : hasT l h.id = true) :
    Calls Try.prog 4 #[.slice A n c, .int .i64 t, .agg #[.int .i64 h.id, .slice A2 m c2, .int .i64 h.frm, .int .i64 h.to]] w fun e w' => e = .returned (.bool true) ∧ Below w.heap.size w w' := by
  obtain ⟨W, hW⟩ : ∃ W, W = w.alloc (hO h A2 m c2) := ⟨_, rfl⟩
  have BX : Hid (BoxH W w.heap.size h A2 m c2) := Lib.hid (by rw [hW]; exact boxH_new w h A2 m c2)
  have hb0 : Below w.heap.size w W := by rw [hW]; exact (Below.refl _ _).alloc (Nat.le_refl _) _
  have HB := Lib.hid hb0
  have T0 := Lib.hid (hl.next hb0)
  have HH := Lib.hid (hh.next hb0)
  have hm2 := hh.few
  unfold maxLen at hm2
  unfold hO at hW
  have HSB := Lib.hid (short_is h0)
  have HL := Lib.hid hl.reads.len
  have hn30 : n ≤ 30 := by rw [← HL.out]; exact HSB.out.1
  have E0 := Lib.hid h0
  have F0 := Lib.hid (short_few' h0)
  have h60d : decide ((60 : Int) < (m : Int)) = false := by simp; omega
  have hmm : m ≤ 100 := by omega
  have HML := Lib.hid hh.reads.1
  have TQ := Lib.hid ht
  clear ht
  have hmt := may_times h
  rw [hh.reads.1] at hmt
  have d0 : decide ((0 : Int) < (m : Int)) = true := by simp; omega
  have d0' : decide (0 < m) = true := by simp; omega
  rw [d0'] at hmt
  rw [hy1] at hmt
  have RR := Lib.hid hy1
  rw [hy2] at hmt
  have TF := Lib.hid hy2
  rw [hy3] at hmt
  have TO := Lib.hid hy3
  have d4 : decide (h.frm < h.to) = true := decide_eq_true hy4
  rw [d4] at hmt
  have hE : addE l h = 7 := addE_there hr hmt hy5
  have eg : gotT l h.id = true := by rw [got_is hr, hy5]
  have EG := Lib.hid eg
  obtain ⟨lt, et⟩ : ∃ r, addT l h = r := ⟨_, rfl⟩
  obtain ⟨x, ex⟩ : ∃ r, getT l h.id = r := ⟨_, rfl⟩
  have ET := Lib.hid et
  have EX := Lib.hid ex
  have EE := Lib.hid hE
  have RT0 := Lib.hid hr
  clear hb0 hl hh h0 h60 hr hmt et ex hE eg hy0 hy1 hy2 hy3 hy4 hy5
  go_enter Try.func4, Try.ntmps4
  go_wp2_with fail
  rw [← hW]
  refine (awake10_any H _).mono ?_
  rintro e w1 ⟨rfl, hb⟩
  have HBq := Lib.hid (HB.out.trans (hb.mono HB.out.size))
  clear HB
  have HB := HBq
  clear HBq
  have T0q := Lib.hid (T0.out.next hb)
  clear T0
  have T0 := T0q
  clear T0q
  have HHq := Lib.hid (HH.out.next hb)
  clear HH
  have HH := HHq
  clear HHq
  have BXq := Lib.hid (BX.out.next hb)
  clear BX
  have BX := BXq
  clear BXq
  clear hb
  clear hW
  go_wp2_with fail
  refine (short_b T0.out E0.out).mono ?_
  rintro e w2 ⟨rfl, hb⟩
  have HBq := Lib.hid (HB.out.trans (hb.mono HB.out.size))
  clear HB
  have HB := HBq
  clear HBq
  have T0q := Lib.hid (T0.out.next hb)
  clear T0
  have T0 := T0q
  clear T0q
  have HHq := Lib.hid (HH.out.next hb)
  clear HH
  have HH := HHq
  clear HHq
  have BXq := Lib.hid (BX.out.next hb)
  clear BX
  have BX := BXq
  clear BXq
  clear hb
  have q0 := BX.out.c0
  have q1 := BX.out.c1
  have q2 := BX.out.c2
  have q3 := BX.out.c3
  go_wp2_with fail
  refine (h10_right H T0.out F0.out RT0.out).mono ?_
  rintro e w3 ⟨rfl, hb⟩
  have HBq := Lib.hid (HB.out.trans (hb.mono HB.out.size))
  clear HB
  have HB := HBq
  clear HBq
  have T0q := Lib.hid (T0.out.next hb)
  clear T0
  have T0 := T0q
  clear T0q
  have HHq := Lib.hid (HH.out.next hb)
  clear HH
  have HH := HHq
  clear HHq
  have BXq := Lib.hid (BX.out.next hb)
  clear BX
  have BX := BXq
  clear BXq
  clear hb
  clear q0 q1 q2 q3
  go_wp2_with fail
  refine (time_b TQ.out).mono ?_
  rintro e w4 ⟨rfl, hb⟩
  have HBq := Lib.hid (HB.out.trans (hb.mono HB.out.size))
  clear HB
  have HB := HBq
  clear HBq
  have T0q := Lib.hid (T0.out.next hb)
  clear T0
  have T0 := T0q
  clear T0q
  have HHq := Lib.hid (HH.out.next hb)
  clear HH
  have HH := HHq
  clear HHq
  have BXq := Lib.hid (BX.out.next hb)
  clear BX
  have BX := BXq
  clear BXq
  clear hb
  have q0 := BX.out.c0
  have q1 := BX.out.c1
  have q2 := BX.out.c2
  have q3 := BX.out.c3
  go_wp2_with fail
  refine (h10_add H T0.out F0.out HH.out hmm ET.out EE.out).mono ?_
  rintro e w5 ⟨⟨A31, c31, rfl, hr31, hn31, hc31⟩, hb⟩
  have HBq := Lib.hid (HB.out.trans (hb.mono HB.out.size))
  clear HB
  have HB := HBq
  clear HBq
  have T0q := Lib.hid (T0.out.next hb)
  clear T0
  have T0 := T0q
  clear T0q
  have HHq := Lib.hid (HH.out.next hb)
  clear HH
  have HH := HHq
  clear HHq
  have BXq := Lib.hid (BX.out.next hb)
  clear BX
  have BX := BXq
  clear BXq
  clear hb
  clear hr31 hn31 hc31
  clear q0 q1 q2 q3
  have q0 := BX.out.c0
  have q1 := BX.out.c1
  have q2 := BX.out.c2
  have q3 := BX.out.c3
  go_wp2_with fail
  refine (h10_get H T0.out F0.out EX.out EG.out).mono ?_
  rintro e w6 ⟨⟨A32, m32, c32, rfl, hh32⟩, hb⟩
  have HBq := Lib.hid (HB.out.trans (hb.mono HB.out.size))
  clear HB
  have HB := HBq
  clear HBq
  have T0q := Lib.hid (T0.out.next hb)
  clear T0
  have T0 := T0q
  clear T0q
  have HHq := Lib.hid (HH.out.next hb)
  clear HH
  have HH := HHq
  clear HHq
  have BXq := Lib.hid (BX.out.next hb)
  clear BX
  have BX := BXq
  clear BXq
  clear hb
  clear hh32
  clear q0 q1 q2 q3
  have hb := Below.alloc (Below.refl w6.heap.size w6) (Nat.le_refl _) (.cells #[.int .i64 x.id, .slice A32 m32 c32, .int .i64 x.frm, .int .i64 x.to] 36)
  have HBq := Lib.hid (HB.out.trans (hb.mono HB.out.size))
  clear HB
  have HB := HBq
  clear HBq
  have T0q := Lib.hid (T0.out.next hb)
  clear T0
  have T0 := T0q
  clear T0q
  have HHq := Lib.hid (HH.out.next hb)
  clear HH
  have HH := HHq
  clear HHq
  have BXq := Lib.hid (BX.out.next hb)
  clear BX
  have BX := BXq
  clear BXq
  clear hb
  have q0 := BX.out.c0
  have q1 := BX.out.c1
  have q2 := BX.out.c2
  have q3 := BX.out.c3
  go_wp2_with fail
  refine (s_isSet HH.out.reads HH.out.few RR.out).mono ?_
  rintro e w7 ⟨rfl, hb⟩
  have HBq := Lib.hid (HB.out.trans (hb.mono HB.out.size))
  clear HB
  have HB := HBq
  clear HBq
  have T0q := Lib.hid (T0.out.next hb)
  clear T0
  have T0 := T0q
  clear T0q
  have HHq := Lib.hid (HH.out.next hb)
  clear HH
  have HH := HHq
  clear HHq
  have BXq := Lib.hid (BX.out.next hb)
  clear BX
  have BX := BXq
  clear BXq
  clear hb
  clear q0 q1 q2 q3
  have q0 := BX.out.c0
  have q1 := BX.out.c1
  have q2 := BX.out.c2
  have q3 := BX.out.c3
  go_wp2_with fail
  refine (time_b TF.out).mono ?_
  rintro e w8 ⟨rfl, hb⟩
  have HBq := Lib.hid (HB.out.trans (hb.mono HB.out.size))
  clear HB
  have HB := HBq
  clear HBq
  have T0q := Lib.hid (T0.out.next hb)
  clear T0
  have T0 := T0q
  clear T0q
  have HHq := Lib.hid (HH.out.next hb)
  clear HH
  have HH := HHq
  clear HHq
  have BXq := Lib.hid (BX.out.next hb)
  clear BX
  have BX := BXq
  clear BXq
  clear hb
  clear q0 q1 q2 q3
  have q0 := BX.out.c0
  have q1 := BX.out.c1
  have q2 := BX.out.c2
  have q3 := BX.out.c3
  go_wp2_with fail
  refine (time_b TO.out).mono ?_
  rintro e w9 ⟨rfl, hb⟩
  have HBq := Lib.hid (HB.out.trans (hb.mono HB.out.size))
  clear HB
  have HB := HBq
  clear HBq
  have T0q := Lib.hid (T0.out.next hb)
  clear T0
  have T0 := T0q
  clear T0q
  have HHq := Lib.hid (HH.out.next hb)
  clear HH
  have HH := HHq
  clear HHq
  have BXq := Lib.hid (BX.out.next hb)
  clear BX
  have BX := BXq
  clear BXq
  clear hb
  clear q0 q1 q2 q3
  have q0 := BX.out.c0
  have q1 := BX.out.c1
  have q2 := BX.out.c2
  have q3 := BX.out.c3
  go_wp2
  go_ret
  exact ⟨rfl, HB.out⟩

set_option maxRecDepth 100000 in
set_option maxHeartbeats 8000000 in
theorem heldApart_n16 (H : HeldOk) (A : Option Addr) (n c : Nat) (l : Tb) (t : Int) (A2 : Option Addr) (m c2 : Nat) (h : Hd) (w : World) (hl : TAsk w A n c l) (hh : HAsk w A2 m c2 h) (h0 : shortT l = true) (h60 : ¬ 60 < m) (hr : rightT l = true) (ht : timeB t = false) (hy0 : 0 < m) (hy1 : rightB h.things = true) (hy2 : timeB h.frm = true) (hy3 : timeB h.to = true) (hy4 : h.frm < h.to) (hy5 : hasT l h.id = false) (hy6 : apartB (busyT l h.frm h.to) h.things = true) :
    Calls Try.prog 4 #[.slice A n c, .int .i64 t, .agg #[.int .i64 h.id, .slice A2 m c2, .int .i64 h.frm, .int .i64 h.to]] w fun e w' => e = .returned (.bool true) ∧ Below w.heap.size w w' := by
  obtain ⟨W, hW⟩ : ∃ W, W = w.alloc (hO h A2 m c2) := ⟨_, rfl⟩
  have BX : Hid (BoxH W w.heap.size h A2 m c2) := Lib.hid (by rw [hW]; exact boxH_new w h A2 m c2)
  have hb0 : Below w.heap.size w W := by rw [hW]; exact (Below.refl _ _).alloc (Nat.le_refl _) _
  have HB := Lib.hid hb0
  have T0 := Lib.hid (hl.next hb0)
  have HH := Lib.hid (hh.next hb0)
  have hm2 := hh.few
  unfold maxLen at hm2
  unfold hO at hW
  have HSB := Lib.hid (short_is h0)
  have HL := Lib.hid hl.reads.len
  have hn30 : n ≤ 30 := by rw [← HL.out]; exact HSB.out.1
  have E0 := Lib.hid h0
  have F0 := Lib.hid (short_few' h0)
  have h60d : decide ((60 : Int) < (m : Int)) = false := by simp; omega
  have hmm : m ≤ 100 := by omega
  have HML := Lib.hid hh.reads.1
  have TQ := Lib.hid ht
  clear ht
  have hmt := may_times h
  rw [hh.reads.1] at hmt
  have d0 : decide ((0 : Int) < (m : Int)) = true := by simp; omega
  have d0' : decide (0 < m) = true := by simp; omega
  rw [d0'] at hmt
  rw [hy1] at hmt
  have RR := Lib.hid hy1
  rw [hy2] at hmt
  have TF := Lib.hid hy2
  rw [hy3] at hmt
  have TO := Lib.hid hy3
  have d4 : decide (h.frm < h.to) = true := decide_eq_true hy4
  rw [d4] at hmt
  have hE0 := addE_apart hr hmt hy5 HSB.out.1
  rw [hy6] at hE0
  obtain ⟨er, hE⟩ : ∃ e, addE l h = e := ⟨_, rfl⟩
  rw [hE] at hE0
  have eg : gotT l h.id = false := by rw [got_is hr, hy5]
  have EG := Lib.hid eg
  have FC0 := busy_len l h.frm h.to
  obtain ⟨rb, eb⟩ : ∃ r, busyT l h.frm h.to = r := ⟨_, rfl⟩
  rw [eb] at FC0 hy6
  have FC := Lib.hid FC0
  have EB := Lib.hid eb
  have EAP := Lib.hid hy6
  clear FC0 eb hy6
  obtain ⟨lt, et⟩ : ∃ r, addT l h = r := ⟨_, rfl⟩
  obtain ⟨x, ex⟩ : ∃ r, getT l h.id = r := ⟨_, rfl⟩
  have ET := Lib.hid et
  have EX := Lib.hid ex
  have EE := Lib.hid hE
  have RT0 := Lib.hid hr
  clear hb0 hl hh h0 h60 hr hmt et ex hE eg hy0 hy1 hy2 hy3 hy4 hy5
  go_enter Try.func4, Try.ntmps4
  go_wp2_with fail
  rw [← hW]
  refine (awake10_any H _).mono ?_
  rintro e w1 ⟨rfl, hb⟩
  have HBq := Lib.hid (HB.out.trans (hb.mono HB.out.size))
  clear HB
  have HB := HBq
  clear HBq
  have T0q := Lib.hid (T0.out.next hb)
  clear T0
  have T0 := T0q
  clear T0q
  have HHq := Lib.hid (HH.out.next hb)
  clear HH
  have HH := HHq
  clear HHq
  have BXq := Lib.hid (BX.out.next hb)
  clear BX
  have BX := BXq
  clear BXq
  clear hb
  clear hW
  go_wp2_with fail
  refine (short_b T0.out E0.out).mono ?_
  rintro e w2 ⟨rfl, hb⟩
  have HBq := Lib.hid (HB.out.trans (hb.mono HB.out.size))
  clear HB
  have HB := HBq
  clear HBq
  have T0q := Lib.hid (T0.out.next hb)
  clear T0
  have T0 := T0q
  clear T0q
  have HHq := Lib.hid (HH.out.next hb)
  clear HH
  have HH := HHq
  clear HHq
  have BXq := Lib.hid (BX.out.next hb)
  clear BX
  have BX := BXq
  clear BXq
  clear hb
  have q0 := BX.out.c0
  have q1 := BX.out.c1
  have q2 := BX.out.c2
  have q3 := BX.out.c3
  go_wp2_with fail
  refine (h10_right H T0.out F0.out RT0.out).mono ?_
  rintro e w3 ⟨rfl, hb⟩
  have HBq := Lib.hid (HB.out.trans (hb.mono HB.out.size))
  clear HB
  have HB := HBq
  clear HBq
  have T0q := Lib.hid (T0.out.next hb)
  clear T0
  have T0 := T0q
  clear T0q
  have HHq := Lib.hid (HH.out.next hb)
  clear HH
  have HH := HHq
  clear HHq
  have BXq := Lib.hid (BX.out.next hb)
  clear BX
  have BX := BXq
  clear BXq
  clear hb
  clear q0 q1 q2 q3
  go_wp2_with fail
  refine (time_b TQ.out).mono ?_
  rintro e w4 ⟨rfl, hb⟩
  have HBq := Lib.hid (HB.out.trans (hb.mono HB.out.size))
  clear HB
  have HB := HBq
  clear HBq
  have T0q := Lib.hid (T0.out.next hb)
  clear T0
  have T0 := T0q
  clear T0q
  have HHq := Lib.hid (HH.out.next hb)
  clear HH
  have HH := HHq
  clear HHq
  have BXq := Lib.hid (BX.out.next hb)
  clear BX
  have BX := BXq
  clear BXq
  clear hb
  have q0 := BX.out.c0
  have q1 := BX.out.c1
  have q2 := BX.out.c2
  have q3 := BX.out.c3
  go_wp2_with fail
  refine (h10_add H T0.out F0.out HH.out hmm ET.out EE.out).mono ?_
  rintro e w5 ⟨⟨A31, c31, rfl, hr31, hn31, hc31⟩, hb⟩
  have HBq := Lib.hid (HB.out.trans (hb.mono HB.out.size))
  clear HB
  have HB := HBq
  clear HBq
  have T0q := Lib.hid (T0.out.next hb)
  clear T0
  have T0 := T0q
  clear T0q
  have HHq := Lib.hid (HH.out.next hb)
  clear HH
  have HH := HHq
  clear HHq
  have BXq := Lib.hid (BX.out.next hb)
  clear BX
  have BX := BXq
  clear BXq
  clear hb
  clear hr31 hn31 hc31
  clear q0 q1 q2 q3
  have q0 := BX.out.c0
  have q1 := BX.out.c1
  have q2 := BX.out.c2
  have q3 := BX.out.c3
  go_wp2_with fail
  refine (h10_get H T0.out F0.out EX.out EG.out).mono ?_
  rintro e w6 ⟨⟨A32, m32, c32, rfl, hh32⟩, hb⟩
  have HBq := Lib.hid (HB.out.trans (hb.mono HB.out.size))
  clear HB
  have HB := HBq
  clear HBq
  have T0q := Lib.hid (T0.out.next hb)
  clear T0
  have T0 := T0q
  clear T0q
  have HHq := Lib.hid (HH.out.next hb)
  clear HH
  have HH := HHq
  clear HHq
  have BXq := Lib.hid (BX.out.next hb)
  clear BX
  have BX := BXq
  clear BXq
  clear hb
  clear hh32
  clear q0 q1 q2 q3
  have hb := Below.alloc (Below.refl w6.heap.size w6) (Nat.le_refl _) (.cells #[.int .i64 x.id, .slice A32 m32 c32, .int .i64 x.frm, .int .i64 x.to] 36)
  have HBq := Lib.hid (HB.out.trans (hb.mono HB.out.size))
  clear HB
  have HB := HBq
  clear HBq
  have T0q := Lib.hid (T0.out.next hb)
  clear T0
  have T0 := T0q
  clear T0q
  have HHq := Lib.hid (HH.out.next hb)
  clear HH
  have HH := HHq
  clear HHq
  have BXq := Lib.hid (BX.out.next hb)
  clear BX
  have BX := BXq
  clear BXq
  clear hb
  have q0 := BX.out.c0
  have q1 := BX.out.c1
  have q2 := BX.out.c2
  have q3 := BX.out.c3
  go_wp2_with fail
  refine (s_isSet HH.out.reads HH.out.few RR.out).mono ?_
  rintro e w7 ⟨rfl, hb⟩
  have HBq := Lib.hid (HB.out.trans (hb.mono HB.out.size))
  clear HB
  have HB := HBq
  clear HBq
  have T0q := Lib.hid (T0.out.next hb)
  clear T0
  have T0 := T0q
  clear T0q
  have HHq := Lib.hid (HH.out.next hb)
  clear HH
  have HH := HHq
  clear HHq
  have BXq := Lib.hid (BX.out.next hb)
  clear BX
  have BX := BXq
  clear BXq
  clear hb
  clear q0 q1 q2 q3
  have q0 := BX.out.c0
  have q1 := BX.out.c1
  have q2 := BX.out.c2
  have q3 := BX.out.c3
  go_wp2_with fail
  refine (time_b TF.out).mono ?_
  rintro e w8 ⟨rfl, hb⟩
  have HBq := Lib.hid (HB.out.trans (hb.mono HB.out.size))
  clear HB
  have HB := HBq
  clear HBq
  have T0q := Lib.hid (T0.out.next hb)
  clear T0
  have T0 := T0q
  clear T0q
  have HHq := Lib.hid (HH.out.next hb)
  clear HH
  have HH := HHq
  clear HHq
  have BXq := Lib.hid (BX.out.next hb)
  clear BX
  have BX := BXq
  clear BXq
  clear hb
  clear q0 q1 q2 q3
  have q0 := BX.out.c0
  have q1 := BX.out.c1
  have q2 := BX.out.c2
  have q3 := BX.out.c3
  go_wp2_with fail
  refine (time_b TO.out).mono ?_
  rintro e w9 ⟨rfl, hb⟩
  have HBq := Lib.hid (HB.out.trans (hb.mono HB.out.size))
  clear HB
  have HB := HBq
  clear HBq
  have T0q := Lib.hid (T0.out.next hb)
  clear T0
  have T0 := T0q
  clear T0q
  have HHq := Lib.hid (HH.out.next hb)
  clear HH
  have HH := HHq
  clear HHq
  have BXq := Lib.hid (BX.out.next hb)
  clear BX
  have BX := BXq
  clear BXq
  clear hb
  clear q0 q1 q2 q3
  have q0 := BX.out.c0
  have q1 := BX.out.c1
  have q2 := BX.out.c2
  have q3 := BX.out.c3
  go_wp2
  have HKEEP : Hid (∀ wx, Below w9.drew.heap.size w9.drew wx → wx.cell? ⟨w.heap.size, 0, none⟩ = some (.int .i64 h.id) ∧ wx.cell? ⟨w.heap.size, 1, none⟩ = some (.slice A2 m c2) ∧ wx.cell? ⟨w.heap.size, 2, none⟩ = some (.int .i64 h.frm) ∧ wx.cell? ⟨w.heap.size, 3, none⟩ = some (.int .i64 h.to)) := Lib.hid (fun wx hz' => by
    have hz := (bel_drew1 w9).trans (hz'.mono (bel_drew1 w9).size)
    exact ⟨keep_cell BX.out.lt BX.out.c0 hz, keep_cell BX.out.lt BX.out.c1 hz, keep_cell BX.out.lt BX.out.c2 hz, keep_cell BX.out.lt BX.out.c3 hz⟩)
  have hd := bel_drew1 w9
  have HBq := Lib.hid (HB.out.trans (hd.mono HB.out.size))
  clear HB
  have HB := HBq
  clear HBq
  have T0q := Lib.hid (T0.out.next hd)
  clear T0
  have T0 := T0q
  clear T0q
  have HHq := Lib.hid (HH.out.next hd)
  clear HH
  have HH := HHq
  clear HHq
  have BXq := Lib.hid (BX.out.next hd)
  clear BX
  have BX := BXq
  clear BXq
  clear hd
  have HY := Lib.hid (Below.refl w9.drew.heap.size w9.drew)
  go_region_held3 (fun w' => w'.cell? ⟨w.heap.size, 0, none⟩ = some (.int .i64 h.id) ∧ w'.cell? ⟨w.heap.size, 1, none⟩ = some (.slice A2 m c2) ∧ w'.cell? ⟨w.heap.size, 2, none⟩ = some (.int .i64 h.frm) ∧ w'.cell? ⟨w.heap.size, 3, none⟩ = some (.int .i64 h.to))
    (first | exact HKEEP.out _ (Below.refl _ _) | exact HKEEP.out _ HY.out | go_keep | fail)
    (first | (go_at_call 12; (with_reducible refine (h10_busy H T0.out F0.out EB.out).mono ?_); rintro e w10 ⟨⟨A33, c33, rfl, hr33, hnil33, hc33⟩, hb⟩; have HY := Lib.hid (HY.out.trans (hb.mono HY.out.size)); have HB := Lib.hid (HB.out.trans (hb.mono HB.out.size)); have T0 := Lib.hid (T0.out.next hb); have HH := Lib.hid (HH.out.next hb); have BX := Lib.hid (BX.out.next hb); have R9 := Lib.hid hr33; clear hb) | (go_at_call 24; (with_reducible refine (s_apart R9.out HH.out.reads (by have := FC.out; unfold maxLen; omega) HH.out.few EAP.out).mono ?_); rintro e w11 ⟨rfl, hb⟩; have HY := Lib.hid (HY.out.trans (hb.mono HY.out.size)); have HB := Lib.hid (HB.out.trans (hb.mono HB.out.size)); have T0 := Lib.hid (T0.out.next hb); have HH := Lib.hid (HH.out.next hb); have BX := Lib.hid (BX.out.next hb); have R9 := Lib.hid (R9.out.next hb); clear hb) | fail)
  clear HKEEP HY
  clear q0 q1 q2 q3
  go_wp2
  go_ret
  exact ⟨rfl, HB.out⟩

set_option maxRecDepth 100000 in
set_option maxHeartbeats 8000000 in
theorem heldApart_n17 (H : HeldOk) (A : Option Addr) (n c : Nat) (l : Tb) (t : Int) (A2 : Option Addr) (m c2 : Nat) (h : Hd) (w : World) (hl : TAsk w A n c l) (hh : HAsk w A2 m c2 h) (h0 : shortT l = true) (h60 : ¬ 60 < m) (hr : rightT l = true) (ht : timeB t = false) (hy0 : 0 < m) (hy1 : rightB h.things = true) (hy2 : timeB h.frm = true) (hy3 : timeB h.to = true) (hy4 : h.frm < h.to) (hy5 : hasT l h.id = false) (hy6 : apartB (busyT l h.frm h.to) h.things = false) :
    Calls Try.prog 4 #[.slice A n c, .int .i64 t, .agg #[.int .i64 h.id, .slice A2 m c2, .int .i64 h.frm, .int .i64 h.to]] w fun e w' => e = .returned (.bool true) ∧ Below w.heap.size w w' := by
  obtain ⟨W, hW⟩ : ∃ W, W = w.alloc (hO h A2 m c2) := ⟨_, rfl⟩
  have BX : Hid (BoxH W w.heap.size h A2 m c2) := Lib.hid (by rw [hW]; exact boxH_new w h A2 m c2)
  have hb0 : Below w.heap.size w W := by rw [hW]; exact (Below.refl _ _).alloc (Nat.le_refl _) _
  have HB := Lib.hid hb0
  have T0 := Lib.hid (hl.next hb0)
  have HH := Lib.hid (hh.next hb0)
  have hm2 := hh.few
  unfold maxLen at hm2
  unfold hO at hW
  have HSB := Lib.hid (short_is h0)
  have HL := Lib.hid hl.reads.len
  have hn30 : n ≤ 30 := by rw [← HL.out]; exact HSB.out.1
  have E0 := Lib.hid h0
  have F0 := Lib.hid (short_few' h0)
  have h60d : decide ((60 : Int) < (m : Int)) = false := by simp; omega
  have hmm : m ≤ 100 := by omega
  have HML := Lib.hid hh.reads.1
  have TQ := Lib.hid ht
  clear ht
  have hmt := may_times h
  rw [hh.reads.1] at hmt
  have d0 : decide ((0 : Int) < (m : Int)) = true := by simp; omega
  have d0' : decide (0 < m) = true := by simp; omega
  rw [d0'] at hmt
  rw [hy1] at hmt
  have RR := Lib.hid hy1
  rw [hy2] at hmt
  have TF := Lib.hid hy2
  rw [hy3] at hmt
  have TO := Lib.hid hy3
  have d4 : decide (h.frm < h.to) = true := decide_eq_true hy4
  rw [d4] at hmt
  have hE0 := addE_apart hr hmt hy5 HSB.out.1
  rw [hy6] at hE0
  obtain ⟨er, hE⟩ : ∃ e, addE l h = e := ⟨_, rfl⟩
  rw [hE] at hE0
  have eg : gotT l h.id = false := by rw [got_is hr, hy5]
  have EG := Lib.hid eg
  have FC0 := busy_len l h.frm h.to
  obtain ⟨rb, eb⟩ : ∃ r, busyT l h.frm h.to = r := ⟨_, rfl⟩
  rw [eb] at FC0 hy6
  have FC := Lib.hid FC0
  have EB := Lib.hid eb
  have EAP := Lib.hid hy6
  clear FC0 eb hy6
  obtain ⟨lt, et⟩ : ∃ r, addT l h = r := ⟨_, rfl⟩
  obtain ⟨x, ex⟩ : ∃ r, getT l h.id = r := ⟨_, rfl⟩
  have ET := Lib.hid et
  have EX := Lib.hid ex
  have EE := Lib.hid hE
  have RT0 := Lib.hid hr
  clear hb0 hl hh h0 h60 hr hmt et ex hE eg hy0 hy1 hy2 hy3 hy4 hy5
  go_enter Try.func4, Try.ntmps4
  go_wp2_with fail
  rw [← hW]
  refine (awake10_any H _).mono ?_
  rintro e w1 ⟨rfl, hb⟩
  have HBq := Lib.hid (HB.out.trans (hb.mono HB.out.size))
  clear HB
  have HB := HBq
  clear HBq
  have T0q := Lib.hid (T0.out.next hb)
  clear T0
  have T0 := T0q
  clear T0q
  have HHq := Lib.hid (HH.out.next hb)
  clear HH
  have HH := HHq
  clear HHq
  have BXq := Lib.hid (BX.out.next hb)
  clear BX
  have BX := BXq
  clear BXq
  clear hb
  clear hW
  go_wp2_with fail
  refine (short_b T0.out E0.out).mono ?_
  rintro e w2 ⟨rfl, hb⟩
  have HBq := Lib.hid (HB.out.trans (hb.mono HB.out.size))
  clear HB
  have HB := HBq
  clear HBq
  have T0q := Lib.hid (T0.out.next hb)
  clear T0
  have T0 := T0q
  clear T0q
  have HHq := Lib.hid (HH.out.next hb)
  clear HH
  have HH := HHq
  clear HHq
  have BXq := Lib.hid (BX.out.next hb)
  clear BX
  have BX := BXq
  clear BXq
  clear hb
  have q0 := BX.out.c0
  have q1 := BX.out.c1
  have q2 := BX.out.c2
  have q3 := BX.out.c3
  go_wp2_with fail
  refine (h10_right H T0.out F0.out RT0.out).mono ?_
  rintro e w3 ⟨rfl, hb⟩
  have HBq := Lib.hid (HB.out.trans (hb.mono HB.out.size))
  clear HB
  have HB := HBq
  clear HBq
  have T0q := Lib.hid (T0.out.next hb)
  clear T0
  have T0 := T0q
  clear T0q
  have HHq := Lib.hid (HH.out.next hb)
  clear HH
  have HH := HHq
  clear HHq
  have BXq := Lib.hid (BX.out.next hb)
  clear BX
  have BX := BXq
  clear BXq
  clear hb
  clear q0 q1 q2 q3
  go_wp2_with fail
  refine (time_b TQ.out).mono ?_
  rintro e w4 ⟨rfl, hb⟩
  have HBq := Lib.hid (HB.out.trans (hb.mono HB.out.size))
  clear HB
  have HB := HBq
  clear HBq
  have T0q := Lib.hid (T0.out.next hb)
  clear T0
  have T0 := T0q
  clear T0q
  have HHq := Lib.hid (HH.out.next hb)
  clear HH
  have HH := HHq
  clear HHq
  have BXq := Lib.hid (BX.out.next hb)
  clear BX
  have BX := BXq
  clear BXq
  clear hb
  have q0 := BX.out.c0
  have q1 := BX.out.c1
  have q2 := BX.out.c2
  have q3 := BX.out.c3
  go_wp2_with fail
  refine (h10_add H T0.out F0.out HH.out hmm ET.out EE.out).mono ?_
  rintro e w5 ⟨⟨A31, c31, rfl, hr31, hn31, hc31⟩, hb⟩
  have HBq := Lib.hid (HB.out.trans (hb.mono HB.out.size))
  clear HB
  have HB := HBq
  clear HBq
  have T0q := Lib.hid (T0.out.next hb)
  clear T0
  have T0 := T0q
  clear T0q
  have HHq := Lib.hid (HH.out.next hb)
  clear HH
  have HH := HHq
  clear HHq
  have BXq := Lib.hid (BX.out.next hb)
  clear BX
  have BX := BXq
  clear BXq
  clear hb
  clear hr31 hn31 hc31
  clear q0 q1 q2 q3
  have q0 := BX.out.c0
  have q1 := BX.out.c1
  have q2 := BX.out.c2
  have q3 := BX.out.c3
  go_wp2_with fail
  refine (h10_get H T0.out F0.out EX.out EG.out).mono ?_
  rintro e w6 ⟨⟨A32, m32, c32, rfl, hh32⟩, hb⟩
  have HBq := Lib.hid (HB.out.trans (hb.mono HB.out.size))
  clear HB
  have HB := HBq
  clear HBq
  have T0q := Lib.hid (T0.out.next hb)
  clear T0
  have T0 := T0q
  clear T0q
  have HHq := Lib.hid (HH.out.next hb)
  clear HH
  have HH := HHq
  clear HHq
  have BXq := Lib.hid (BX.out.next hb)
  clear BX
  have BX := BXq
  clear BXq
  clear hb
  clear hh32
  clear q0 q1 q2 q3
  have hb := Below.alloc (Below.refl w6.heap.size w6) (Nat.le_refl _) (.cells #[.int .i64 x.id, .slice A32 m32 c32, .int .i64 x.frm, .int .i64 x.to] 36)
  have HBq := Lib.hid (HB.out.trans (hb.mono HB.out.size))
  clear HB
  have HB := HBq
  clear HBq
  have T0q := Lib.hid (T0.out.next hb)
  clear T0
  have T0 := T0q
  clear T0q
  have HHq := Lib.hid (HH.out.next hb)
  clear HH
  have HH := HHq
  clear HHq
  have BXq := Lib.hid (BX.out.next hb)
  clear BX
  have BX := BXq
  clear BXq
  clear hb
  have q0 := BX.out.c0
  have q1 := BX.out.c1
  have q2 := BX.out.c2
  have q3 := BX.out.c3
  go_wp2_with fail
  refine (s_isSet HH.out.reads HH.out.few RR.out).mono ?_
  rintro e w7 ⟨rfl, hb⟩
  have HBq := Lib.hid (HB.out.trans (hb.mono HB.out.size))
  clear HB
  have HB := HBq
  clear HBq
  have T0q := Lib.hid (T0.out.next hb)
  clear T0
  have T0 := T0q
  clear T0q
  have HHq := Lib.hid (HH.out.next hb)
  clear HH
  have HH := HHq
  clear HHq
  have BXq := Lib.hid (BX.out.next hb)
  clear BX
  have BX := BXq
  clear BXq
  clear hb
  clear q0 q1 q2 q3
  have q0 := BX.out.c0
  have q1 := BX.out.c1
  have q2 := BX.out.c2
  have q3 := BX.out.c3
  go_wp2_with fail
  refine (time_b TF.out).mono ?_
  rintro e w8 ⟨rfl, hb⟩
  have HBq := Lib.hid (HB.out.trans (hb.mono HB.out.size))
  clear HB
  have HB := HBq
  clear HBq
  have T0q := Lib.hid (T0.out.next hb)
  clear T0
  have T0 := T0q
  clear T0q
  have HHq := Lib.hid (HH.out.next hb)
  clear HH
  have HH := HHq
  clear HHq
  have BXq := Lib.hid (BX.out.next hb)
  clear BX
  have BX := BXq
  clear BXq
  clear hb
  clear q0 q1 q2 q3
  have q0 := BX.out.c0
  have q1 := BX.out.c1
  have q2 := BX.out.c2
  have q3 := BX.out.c3
  go_wp2_with fail
  refine (time_b TO.out).mono ?_
  rintro e w9 ⟨rfl, hb⟩
  have HBq := Lib.hid (HB.out.trans (hb.mono HB.out.size))
  clear HB
  have HB := HBq
  clear HBq
  have T0q := Lib.hid (T0.out.next hb)
  clear T0
  have T0 := T0q
  clear T0q
  have HHq := Lib.hid (HH.out.next hb)
  clear HH
  have HH := HHq
  clear HHq
  have BXq := Lib.hid (BX.out.next hb)
  clear BX
  have BX := BXq
  clear BXq
  clear hb
  clear q0 q1 q2 q3
  have q0 := BX.out.c0
  have q1 := BX.out.c1
  have q2 := BX.out.c2
  have q3 := BX.out.c3
  go_wp2
  have HKEEP : Hid (∀ wx, Below w9.drew.heap.size w9.drew wx → wx.cell? ⟨w.heap.size, 0, none⟩ = some (.int .i64 h.id) ∧ wx.cell? ⟨w.heap.size, 1, none⟩ = some (.slice A2 m c2) ∧ wx.cell? ⟨w.heap.size, 2, none⟩ = some (.int .i64 h.frm) ∧ wx.cell? ⟨w.heap.size, 3, none⟩ = some (.int .i64 h.to)) := Lib.hid (fun wx hz' => by
    have hz := (bel_drew1 w9).trans (hz'.mono (bel_drew1 w9).size)
    exact ⟨keep_cell BX.out.lt BX.out.c0 hz, keep_cell BX.out.lt BX.out.c1 hz, keep_cell BX.out.lt BX.out.c2 hz, keep_cell BX.out.lt BX.out.c3 hz⟩)
  have hd := bel_drew1 w9
  have HBq := Lib.hid (HB.out.trans (hd.mono HB.out.size))
  clear HB
  have HB := HBq
  clear HBq
  have T0q := Lib.hid (T0.out.next hd)
  clear T0
  have T0 := T0q
  clear T0q
  have HHq := Lib.hid (HH.out.next hd)
  clear HH
  have HH := HHq
  clear HHq
  have BXq := Lib.hid (BX.out.next hd)
  clear BX
  have BX := BXq
  clear BXq
  clear hd
  have HY := Lib.hid (Below.refl w9.drew.heap.size w9.drew)
  go_region_held3 (fun w' => w'.cell? ⟨w.heap.size, 0, none⟩ = some (.int .i64 h.id) ∧ w'.cell? ⟨w.heap.size, 1, none⟩ = some (.slice A2 m c2) ∧ w'.cell? ⟨w.heap.size, 2, none⟩ = some (.int .i64 h.frm) ∧ w'.cell? ⟨w.heap.size, 3, none⟩ = some (.int .i64 h.to))
    (first | exact HKEEP.out _ (Below.refl _ _) | exact HKEEP.out _ HY.out | go_keep | fail)
    (first | (go_at_call 12; (with_reducible refine (h10_busy H T0.out F0.out EB.out).mono ?_); rintro e w10 ⟨⟨A33, c33, rfl, hr33, hnil33, hc33⟩, hb⟩; have HY := Lib.hid (HY.out.trans (hb.mono HY.out.size)); have HB := Lib.hid (HB.out.trans (hb.mono HB.out.size)); have T0 := Lib.hid (T0.out.next hb); have HH := Lib.hid (HH.out.next hb); have BX := Lib.hid (BX.out.next hb); have R9 := Lib.hid hr33; clear hb) | (go_at_call 24; (with_reducible refine (s_apart R9.out HH.out.reads (by have := FC.out; unfold maxLen; omega) HH.out.few EAP.out).mono ?_); rintro e w11 ⟨rfl, hb⟩; have HY := Lib.hid (HY.out.trans (hb.mono HY.out.size)); have HB := Lib.hid (HB.out.trans (hb.mono HB.out.size)); have T0 := Lib.hid (T0.out.next hb); have HH := Lib.hid (HH.out.next hb); have BX := Lib.hid (BX.out.next hb); have R9 := Lib.hid (R9.out.next hb); clear hb) | fail)
  clear HKEEP HY
  clear q0 q1 q2 q3
  go_wp2
  go_ret
  exact ⟨rfl, HB.out⟩

set_option maxRecDepth 100000 in
set_option maxHeartbeats 8000000 in
theorem heldApart_n20 (H : HeldOk) (A : Option Addr) (n c : Nat) (l : Tb) (t : Int) (A2 : Option Addr) (m c2 : Nat) (h : Hd) (w : World) (hl : TAsk w A n c l) (hh : HAsk w A2 m c2 h) (h0 : shortT l = true) (h60 : ¬ 60 < m) (hr : rightT l = true) (ht : timeB t = true) (ht2 : ¬ t < 4611686018427387904) (hy0 : m = 0) :
    Calls Try.prog 4 #[.slice A n c, .int .i64 t, .agg #[.int .i64 h.id, .slice A2 m c2, .int .i64 h.frm, .int .i64 h.to]] w fun e w' => e = .returned (.bool true) ∧ Below w.heap.size w w' := by
  obtain ⟨W, hW⟩ : ∃ W, W = w.alloc (hO h A2 m c2) := ⟨_, rfl⟩
  have BX : Hid (BoxH W w.heap.size h A2 m c2) := Lib.hid (by rw [hW]; exact boxH_new w h A2 m c2)
  have hb0 : Below w.heap.size w W := by rw [hW]; exact (Below.refl _ _).alloc (Nat.le_refl _) _
  have HB := Lib.hid hb0
  have T0 := Lib.hid (hl.next hb0)
  have HH := Lib.hid (hh.next hb0)
  have hm2 := hh.few
  unfold maxLen at hm2
  unfold hO at hW
  have HSB := Lib.hid (short_is h0)
  have HL := Lib.hid hl.reads.len
  have hn30 : n ≤ 30 := by rw [← HL.out]; exact HSB.out.1
  have E0 := Lib.hid h0
  have F0 := Lib.hid (short_few' h0)
  have h60d : decide ((60 : Int) < (m : Int)) = false := by simp; omega
  have hmm : m ≤ 100 := by omega
  have HML := Lib.hid hh.reads.1
  have TQ := Lib.hid ht
  have dt : decide (t < 4611686018427387904) = false := decide_eq_false ht2
  clear ht ht2
  have hmt := may_times h
  rw [hh.reads.1] at hmt
  have d0 : decide ((0 : Int) < (m : Int)) = false := by simp; omega
  have d0' : decide (0 < m) = false := by simp; omega
  rw [d0'] at hmt
  have _h60 := h60
  clear _h60
  have hE : addE l h = 1 := addE_bad hmt
  obtain ⟨gt, eg⟩ : ∃ b, gotT l h.id = b := ⟨_, rfl⟩
  have EG := Lib.hid eg
  obtain ⟨lt, et⟩ : ∃ r, addT l h = r := ⟨_, rfl⟩
  obtain ⟨x, ex⟩ : ∃ r, getT l h.id = r := ⟨_, rfl⟩
  have ET := Lib.hid et
  have EX := Lib.hid ex
  have EE := Lib.hid hE
  have RT0 := Lib.hid hr
  clear hb0 hl hh h0 h60 hr hmt et ex hE eg hy0
  go_enter Try.func4, Try.ntmps4
  go_wp2_with fail
  rw [← hW]
  refine (awake10_any H _).mono ?_
  rintro e w1 ⟨rfl, hb⟩
  have HBq := Lib.hid (HB.out.trans (hb.mono HB.out.size))
  clear HB
  have HB := HBq
  clear HBq
  have T0q := Lib.hid (T0.out.next hb)
  clear T0
  have T0 := T0q
  clear T0q
  have HHq := Lib.hid (HH.out.next hb)
  clear HH
  have HH := HHq
  clear HHq
  have BXq := Lib.hid (BX.out.next hb)
  clear BX
  have BX := BXq
  clear BXq
  clear hb
  clear hW
  go_wp2_with fail
  refine (short_b T0.out E0.out).mono ?_
  rintro e w2 ⟨rfl, hb⟩
  have HBq := Lib.hid (HB.out.trans (hb.mono HB.out.size))
  clear HB
  have HB := HBq
  clear HBq
  have T0q := Lib.hid (T0.out.next hb)
  clear T0
  have T0 := T0q
  clear T0q
  have HHq := Lib.hid (HH.out.next hb)
  clear HH
  have HH := HHq
  clear HHq
  have BXq := Lib.hid (BX.out.next hb)
  clear BX
  have BX := BXq
  clear BXq
  clear hb
  have q0 := BX.out.c0
  have q1 := BX.out.c1
  have q2 := BX.out.c2
  have q3 := BX.out.c3
  go_wp2_with fail
  refine (h10_right H T0.out F0.out RT0.out).mono ?_
  rintro e w3 ⟨rfl, hb⟩
  have HBq := Lib.hid (HB.out.trans (hb.mono HB.out.size))
  clear HB
  have HB := HBq
  clear HBq
  have T0q := Lib.hid (T0.out.next hb)
  clear T0
  have T0 := T0q
  clear T0q
  have HHq := Lib.hid (HH.out.next hb)
  clear HH
  have HH := HHq
  clear HHq
  have BXq := Lib.hid (BX.out.next hb)
  clear BX
  have BX := BXq
  clear BXq
  clear hb
  clear q0 q1 q2 q3
  go_wp2_with fail
  refine (time_b TQ.out).mono ?_
  rintro e w4 ⟨rfl, hb⟩
  have HBq := Lib.hid (HB.out.trans (hb.mono HB.out.size))
  clear HB
  have HB := HBq
  clear HBq
  have T0q := Lib.hid (T0.out.next hb)
  clear T0
  have T0 := T0q
  clear T0q
  have HHq := Lib.hid (HH.out.next hb)
  clear HH
  have HH := HHq
  clear HHq
  have BXq := Lib.hid (BX.out.next hb)
  clear BX
  have BX := BXq
  clear BXq
  clear hb
  have q0 := BX.out.c0
  have q1 := BX.out.c1
  have q2 := BX.out.c2
  have q3 := BX.out.c3
  go_wp2_with fail
  refine (h10_add H T0.out F0.out HH.out hmm ET.out EE.out).mono ?_
  rintro e w5 ⟨⟨A31, c31, rfl, hr31, hn31, hc31⟩, hb⟩
  have HBq := Lib.hid (HB.out.trans (hb.mono HB.out.size))
  clear HB
  have HB := HBq
  clear HBq
  have T0q := Lib.hid (T0.out.next hb)
  clear T0
  have T0 := T0q
  clear T0q
  have HHq := Lib.hid (HH.out.next hb)
  clear HH
  have HH := HHq
  clear HHq
  have BXq := Lib.hid (BX.out.next hb)
  clear BX
  have BX := BXq
  clear BXq
  clear hb
  clear hr31 hn31 hc31
  clear q0 q1 q2 q3
  have q0 := BX.out.c0
  have q1 := BX.out.c1
  have q2 := BX.out.c2
  have q3 := BX.out.c3
  go_wp2_with fail
  refine (h10_get H T0.out F0.out EX.out EG.out).mono ?_
  rintro e w6 ⟨⟨A32, m32, c32, rfl, hh32⟩, hb⟩
  have HBq := Lib.hid (HB.out.trans (hb.mono HB.out.size))
  clear HB
  have HB := HBq
  clear HBq
  have T0q := Lib.hid (T0.out.next hb)
  clear T0
  have T0 := T0q
  clear T0q
  have HHq := Lib.hid (HH.out.next hb)
  clear HH
  have HH := HHq
  clear HHq
  have BXq := Lib.hid (BX.out.next hb)
  clear BX
  have BX := BXq
  clear BXq
  clear hb
  clear hh32
  clear q0 q1 q2 q3
  have hb := Below.alloc (Below.refl w6.heap.size w6) (Nat.le_refl _) (.cells #[.int .i64 x.id, .slice A32 m32 c32, .int .i64 x.frm, .int .i64 x.to] 36)
  have HBq := Lib.hid (HB.out.trans (hb.mono HB.out.size))
  clear HB
  have HB := HBq
  clear HBq
  have T0q := Lib.hid (T0.out.next hb)
  clear T0
  have T0 := T0q
  clear T0q
  have HHq := Lib.hid (HH.out.next hb)
  clear HH
  have HH := HHq
  clear HHq
  have BXq := Lib.hid (BX.out.next hb)
  clear BX
  have BX := BXq
  clear BXq
  clear hb
  have q0 := BX.out.c0
  have q1 := BX.out.c1
  have q2 := BX.out.c2
  have q3 := BX.out.c3
  go_wp2
  go_ret
  exact ⟨rfl, HB.out⟩

set_option maxRecDepth 100000 in
set_option maxHeartbeats 8000000 in
theorem heldApart_n21 (H : HeldOk) (A : Option Addr) (n c : Nat) (l : Tb) (t : Int) (A2 : Option Addr) (m c2 : Nat) (h : Hd) (w : World) (hl : TAsk w A n c l) (hh : HAsk w A2 m c2 h) (h0 : shortT l = true) (h60 : ¬ 60 < m) (hr : rightT l = true) (ht : timeB t = true) (ht2 : ¬ t < 4611686018427387904) (hy0 : 0 < m) (hy1 : rightB h.things = false) :
    Calls Try.prog 4 #[.slice A n c, .int .i64 t, .agg #[.int .i64 h.id, .slice A2 m c2, .int .i64 h.frm, .int .i64 h.to]] w fun e w' => e = .returned (.bool true) ∧ Below w.heap.size w w' := by
  obtain ⟨W, hW⟩ : ∃ W, W = w.alloc (hO h A2 m c2) := ⟨_, rfl⟩
  have BX : Hid (BoxH W w.heap.size h A2 m c2) := Lib.hid (by rw [hW]; exact boxH_new w h A2 m c2)
  have hb0 : Below w.heap.size w W := by rw [hW]; exact (Below.refl _ _).alloc (Nat.le_refl _) _
  have HB := Lib.hid hb0
  have T0 := Lib.hid (hl.next hb0)
  have HH := Lib.hid (hh.next hb0)
  have hm2 := hh.few
  unfold maxLen at hm2
  unfold hO at hW
  have HSB := Lib.hid (short_is h0)
  have HL := Lib.hid hl.reads.len
  have hn30 : n ≤ 30 := by rw [← HL.out]; exact HSB.out.1
  have E0 := Lib.hid h0
  have F0 := Lib.hid (short_few' h0)
  have h60d : decide ((60 : Int) < (m : Int)) = false := by simp; omega
  have hmm : m ≤ 100 := by omega
  have HML := Lib.hid hh.reads.1
  have TQ := Lib.hid ht
  have dt : decide (t < 4611686018427387904) = false := decide_eq_false ht2
  clear ht ht2
  have hmt := may_times h
  rw [hh.reads.1] at hmt
  have d0 : decide ((0 : Int) < (m : Int)) = true := by simp; omega
  have d0' : decide (0 < m) = true := by simp; omega
  rw [d0'] at hmt
  rw [hy1] at hmt
  have RR := Lib.hid hy1
  have hE : addE l h = 1 := addE_bad hmt
  obtain ⟨gt, eg⟩ : ∃ b, gotT l h.id = b := ⟨_, rfl⟩
  have EG := Lib.hid eg
  obtain ⟨lt, et⟩ : ∃ r, addT l h = r := ⟨_, rfl⟩
  obtain ⟨x, ex⟩ : ∃ r, getT l h.id = r := ⟨_, rfl⟩
  have ET := Lib.hid et
  have EX := Lib.hid ex
  have EE := Lib.hid hE
  have RT0 := Lib.hid hr
  clear hb0 hl hh h0 h60 hr hmt et ex hE eg hy0 hy1
  go_enter Try.func4, Try.ntmps4
  go_wp2_with fail
  rw [← hW]
  refine (awake10_any H _).mono ?_
  rintro e w1 ⟨rfl, hb⟩
  have HBq := Lib.hid (HB.out.trans (hb.mono HB.out.size))
  clear HB
  have HB := HBq
  clear HBq
  have T0q := Lib.hid (T0.out.next hb)
  clear T0
  have T0 := T0q
  clear T0q
  have HHq := Lib.hid (HH.out.next hb)
  clear HH
  have HH := HHq
  clear HHq
  have BXq := Lib.hid (BX.out.next hb)
  clear BX
  have BX := BXq
  clear BXq
  clear hb
  clear hW
  go_wp2_with fail
  refine (short_b T0.out E0.out).mono ?_
  rintro e w2 ⟨rfl, hb⟩
  have HBq := Lib.hid (HB.out.trans (hb.mono HB.out.size))
  clear HB
  have HB := HBq
  clear HBq
  have T0q := Lib.hid (T0.out.next hb)
  clear T0
  have T0 := T0q
  clear T0q
  have HHq := Lib.hid (HH.out.next hb)
  clear HH
  have HH := HHq
  clear HHq
  have BXq := Lib.hid (BX.out.next hb)
  clear BX
  have BX := BXq
  clear BXq
  clear hb
  have q0 := BX.out.c0
  have q1 := BX.out.c1
  have q2 := BX.out.c2
  have q3 := BX.out.c3
  go_wp2_with fail
  refine (h10_right H T0.out F0.out RT0.out).mono ?_
  rintro e w3 ⟨rfl, hb⟩
  have HBq := Lib.hid (HB.out.trans (hb.mono HB.out.size))
  clear HB
  have HB := HBq
  clear HBq
  have T0q := Lib.hid (T0.out.next hb)
  clear T0
  have T0 := T0q
  clear T0q
  have HHq := Lib.hid (HH.out.next hb)
  clear HH
  have HH := HHq
  clear HHq
  have BXq := Lib.hid (BX.out.next hb)
  clear BX
  have BX := BXq
  clear BXq
  clear hb
  clear q0 q1 q2 q3
  go_wp2_with fail
  refine (time_b TQ.out).mono ?_
  rintro e w4 ⟨rfl, hb⟩
  have HBq := Lib.hid (HB.out.trans (hb.mono HB.out.size))
  clear HB
  have HB := HBq
  clear HBq
  have T0q := Lib.hid (T0.out.next hb)
  clear T0
  have T0 := T0q
  clear T0q
  have HHq := Lib.hid (HH.out.next hb)
  clear HH
  have HH := HHq
  clear HHq
  have BXq := Lib.hid (BX.out.next hb)
  clear BX
  have BX := BXq
  clear BXq
  clear hb
  have q0 := BX.out.c0
  have q1 := BX.out.c1
  have q2 := BX.out.c2
  have q3 := BX.out.c3
  go_wp2_with fail
  refine (h10_add H T0.out F0.out HH.out hmm ET.out EE.out).mono ?_
  rintro e w5 ⟨⟨A31, c31, rfl, hr31, hn31, hc31⟩, hb⟩
  have HBq := Lib.hid (HB.out.trans (hb.mono HB.out.size))
  clear HB
  have HB := HBq
  clear HBq
  have T0q := Lib.hid (T0.out.next hb)
  clear T0
  have T0 := T0q
  clear T0q
  have HHq := Lib.hid (HH.out.next hb)
  clear HH
  have HH := HHq
  clear HHq
  have BXq := Lib.hid (BX.out.next hb)
  clear BX
  have BX := BXq
  clear BXq
  clear hb
  clear hr31 hn31 hc31
  clear q0 q1 q2 q3
  have q0 := BX.out.c0
  have q1 := BX.out.c1
  have q2 := BX.out.c2
  have q3 := BX.out.c3
  go_wp2_with fail
  refine (h10_get H T0.out F0.out EX.out EG.out).mono ?_
  rintro e w6 ⟨⟨A32, m32, c32, rfl, hh32⟩, hb⟩
  have HBq := Lib.hid (HB.out.trans (hb.mono HB.out.size))
  clear HB
  have HB := HBq
  clear HBq
  have T0q := Lib.hid (T0.out.next hb)
  clear T0
  have T0 := T0q
  clear T0q
  have HHq := Lib.hid (HH.out.next hb)
  clear HH
  have HH := HHq
  clear HHq
  have BXq := Lib.hid (BX.out.next hb)
  clear BX
  have BX := BXq
  clear BXq
  clear hb
  clear hh32
  clear q0 q1 q2 q3
  have hb := Below.alloc (Below.refl w6.heap.size w6) (Nat.le_refl _) (.cells #[.int .i64 x.id, .slice A32 m32 c32, .int .i64 x.frm, .int .i64 x.to] 36)
  have HBq := Lib.hid (HB.out.trans (hb.mono HB.out.size))
  clear HB
  have HB := HBq
  clear HBq
  have T0q := Lib.hid (T0.out.next hb)
  clear T0
  have T0 := T0q
  clear T0q
  have HHq := Lib.hid (HH.out.next hb)
  clear HH
  have HH := HHq
  clear HHq
  have BXq := Lib.hid (BX.out.next hb)
  clear BX
  have BX := BXq
  clear BXq
  clear hb
  have q0 := BX.out.c0
  have q1 := BX.out.c1
  have q2 := BX.out.c2
  have q3 := BX.out.c3
  go_wp2_with fail
  refine (s_isSet HH.out.reads HH.out.few RR.out).mono ?_
  rintro e w7 ⟨rfl, hb⟩
  have HBq := Lib.hid (HB.out.trans (hb.mono HB.out.size))
  clear HB
  have HB := HBq
  clear HBq
  have T0q := Lib.hid (T0.out.next hb)
  clear T0
  have T0 := T0q
  clear T0q
  have HHq := Lib.hid (HH.out.next hb)
  clear HH
  have HH := HHq
  clear HHq
  have BXq := Lib.hid (BX.out.next hb)
  clear BX
  have BX := BXq
  clear BXq
  clear hb
  clear q0 q1 q2 q3
  have q0 := BX.out.c0
  have q1 := BX.out.c1
  have q2 := BX.out.c2
  have q3 := BX.out.c3
  go_wp2
  go_ret
  exact ⟨rfl, HB.out⟩

set_option maxRecDepth 100000 in
set_option maxHeartbeats 8000000 in
theorem heldApart_n22 (H : HeldOk) (A : Option Addr) (n c : Nat) (l : Tb) (t : Int) (A2 : Option Addr) (m c2 : Nat) (h : Hd) (w : World) (hl : TAsk w A n c l) (hh : HAsk w A2 m c2 h) (h0 : shortT l = true) (h60 : ¬ 60 < m) (hr : rightT l = true) (ht : timeB t = true) (ht2 : ¬ t < 4611686018427387904) (hy0 : 0 < m) (hy1 : rightB h.things = true) (hy2 : timeB h.frm = false) :
    Calls Try.prog 4 #[.slice A n c, .int .i64 t, .agg #[.int .i64 h.id, .slice A2 m c2, .int .i64 h.frm, .int .i64 h.to]] w fun e w' => e = .returned (.bool true) ∧ Below w.heap.size w w' := by
  obtain ⟨W, hW⟩ : ∃ W, W = w.alloc (hO h A2 m c2) := ⟨_, rfl⟩
  have BX : Hid (BoxH W w.heap.size h A2 m c2) := Lib.hid (by rw [hW]; exact boxH_new w h A2 m c2)
  have hb0 : Below w.heap.size w W := by rw [hW]; exact (Below.refl _ _).alloc (Nat.le_refl _) _
  have HB := Lib.hid hb0
  have T0 := Lib.hid (hl.next hb0)
  have HH := Lib.hid (hh.next hb0)
  have hm2 := hh.few
  unfold maxLen at hm2
  unfold hO at hW
  have HSB := Lib.hid (short_is h0)
  have HL := Lib.hid hl.reads.len
  have hn30 : n ≤ 30 := by rw [← HL.out]; exact HSB.out.1
  have E0 := Lib.hid h0
  have F0 := Lib.hid (short_few' h0)
  have h60d : decide ((60 : Int) < (m : Int)) = false := by simp; omega
  have hmm : m ≤ 100 := by omega
  have HML := Lib.hid hh.reads.1
  have TQ := Lib.hid ht
  have dt : decide (t < 4611686018427387904) = false := decide_eq_false ht2
  clear ht ht2
  have hmt := may_times h
  rw [hh.reads.1] at hmt
  have d0 : decide ((0 : Int) < (m : Int)) = true := by simp; omega
  have d0' : decide (0 < m) = true := by simp; omega
  rw [d0'] at hmt
  rw [hy1] at hmt
  have RR := Lib.hid hy1
  rw [hy2] at hmt
  have TF := Lib.hid hy2
  have hE : addE l h = 1 := addE_bad hmt
  obtain ⟨gt, eg⟩ : ∃ b, gotT l h.id = b := ⟨_, rfl⟩
  have EG := Lib.hid eg
  obtain ⟨lt, et⟩ : ∃ r, addT l h = r := ⟨_, rfl⟩
  obtain ⟨x, ex⟩ : ∃ r, getT l h.id = r := ⟨_, rfl⟩
  have ET := Lib.hid et
  have EX := Lib.hid ex
  have EE := Lib.hid hE
  have RT0 := Lib.hid hr
  clear hb0 hl hh h0 h60 hr hmt et ex hE eg hy0 hy1 hy2
  go_enter Try.func4, Try.ntmps4
  go_wp2_with fail
  rw [← hW]
  refine (awake10_any H _).mono ?_
  rintro e w1 ⟨rfl, hb⟩
  have HBq := Lib.hid (HB.out.trans (hb.mono HB.out.size))
  clear HB
  have HB := HBq
  clear HBq
  have T0q := Lib.hid (T0.out.next hb)
  clear T0
  have T0 := T0q
  clear T0q
  have HHq := Lib.hid (HH.out.next hb)
  clear HH
  have HH := HHq
  clear HHq
  have BXq := Lib.hid (BX.out.next hb)
  clear BX
  have BX := BXq
  clear BXq
  clear hb
  clear hW
  go_wp2_with fail
  refine (short_b T0.out E0.out).mono ?_
  rintro e w2 ⟨rfl, hb⟩
  have HBq := Lib.hid (HB.out.trans (hb.mono HB.out.size))
  clear HB
  have HB := HBq
  clear HBq
  have T0q := Lib.hid (T0.out.next hb)
  clear T0
  have T0 := T0q
  clear T0q
  have HHq := Lib.hid (HH.out.next hb)
  clear HH
  have HH := HHq
  clear HHq
  have BXq := Lib.hid (BX.out.next hb)
  clear BX
  have BX := BXq
  clear BXq
  clear hb
  have q0 := BX.out.c0
  have q1 := BX.out.c1
  have q2 := BX.out.c2
  have q3 := BX.out.c3
  go_wp2_with fail
  refine (h10_right H T0.out F0.out RT0.out).mono ?_
  rintro e w3 ⟨rfl, hb⟩
  have HBq := Lib.hid (HB.out.trans (hb.mono HB.out.size))
  clear HB
  have HB := HBq
  clear HBq
  have T0q := Lib.hid (T0.out.next hb)
  clear T0
  have T0 := T0q
  clear T0q
  have HHq := Lib.hid (HH.out.next hb)
  clear HH
  have HH := HHq
  clear HHq
  have BXq := Lib.hid (BX.out.next hb)
  clear BX
  have BX := BXq
  clear BXq
  clear hb
  clear q0 q1 q2 q3
  go_wp2_with fail
  refine (time_b TQ.out).mono ?_
  rintro e w4 ⟨rfl, hb⟩
  have HBq := Lib.hid (HB.out.trans (hb.mono HB.out.size))
  clear HB
  have HB := HBq
  clear HBq
  have T0q := Lib.hid (T0.out.next hb)
  clear T0
  have T0 := T0q
  clear T0q
  have HHq := Lib.hid (HH.out.next hb)
  clear HH
  have HH := HHq
  clear HHq
  have BXq := Lib.hid (BX.out.next hb)
  clear BX
  have BX := BXq
  clear BXq
  clear hb
  have q0 := BX.out.c0
  have q1 := BX.out.c1
  have q2 := BX.out.c2
  have q3 := BX.out.c3
  go_wp2_with fail
  refine (h10_add H T0.out F0.out HH.out hmm ET.out EE.out).mono ?_
  rintro e w5 ⟨⟨A31, c31, rfl, hr31, hn31, hc31⟩, hb⟩
  have HBq := Lib.hid (HB.out.trans (hb.mono HB.out.size))
  clear HB
  have HB := HBq
  clear HBq
  have T0q := Lib.hid (T0.out.next hb)
  clear T0
  have T0 := T0q
  clear T0q
  have HHq := Lib.hid (HH.out.next hb)
  clear HH
  have HH := HHq
  clear HHq
  have BXq := Lib.hid (BX.out.next hb)
  clear BX
  have BX := BXq
  clear BXq
  clear hb
  clear hr31 hn31 hc31
  clear q0 q1 q2 q3
  have q0 := BX.out.c0
  have q1 := BX.out.c1
  have q2 := BX.out.c2
  have q3 := BX.out.c3
  go_wp2_with fail
  refine (h10_get H T0.out F0.out EX.out EG.out).mono ?_
  rintro e w6 ⟨⟨A32, m32, c32, rfl, hh32⟩, hb⟩
  have HBq := Lib.hid (HB.out.trans (hb.mono HB.out.size))
  clear HB
  have HB := HBq
  clear HBq
  have T0q := Lib.hid (T0.out.next hb)
  clear T0
  have T0 := T0q
  clear T0q
  have HHq := Lib.hid (HH.out.next hb)
  clear HH
  have HH := HHq
  clear HHq
  have BXq := Lib.hid (BX.out.next hb)
  clear BX
  have BX := BXq
  clear BXq
  clear hb
  clear hh32
  clear q0 q1 q2 q3
  have hb := Below.alloc (Below.refl w6.heap.size w6) (Nat.le_refl _) (.cells #[.int .i64 x.id, .slice A32 m32 c32, .int .i64 x.frm, .int .i64 x.to] 36)
  have HBq := Lib.hid (HB.out.trans (hb.mono HB.out.size))
  clear HB
  have HB := HBq
  clear HBq
  have T0q := Lib.hid (T0.out.next hb)
  clear T0
  have T0 := T0q
  clear T0q
  have HHq := Lib.hid (HH.out.next hb)
  clear HH
  have HH := HHq
  clear HHq
  have BXq := Lib.hid (BX.out.next hb)
  clear BX
  have BX := BXq
  clear BXq
  clear hb
  have q0 := BX.out.c0
  have q1 := BX.out.c1
  have q2 := BX.out.c2
  have q3 := BX.out.c3
  go_wp2_with fail
  refine (s_isSet HH.out.reads HH.out.few RR.out).mono ?_
  rintro e w7 ⟨rfl, hb⟩
  have HBq := Lib.hid (HB.out.trans (hb.mono HB.out.size))
  clear HB
  have HB := HBq
  clear HBq
  have T0q := Lib.hid (T0.out.next hb)
  clear T0
  have T0 := T0q
  clear T0q
  have HHq := Lib.hid (HH.out.next hb)
  clear HH
  have HH := HHq
  clear HHq
  have BXq := Lib.hid (BX.out.next hb)
  clear BX
  have BX := BXq
  clear BXq
  clear hb
  clear q0 q1 q2 q3
  have q0 := BX.out.c0
  have q1 := BX.out.c1
  have q2 := BX.out.c2
  have q3 := BX.out.c3
  go_wp2_with fail
  refine (time_b TF.out).mono ?_
  rintro e w8 ⟨rfl, hb⟩
  have HBq := Lib.hid (HB.out.trans (hb.mono HB.out.size))
  clear HB
  have HB := HBq
  clear HBq
  have T0q := Lib.hid (T0.out.next hb)
  clear T0
  have T0 := T0q
  clear T0q
  have HHq := Lib.hid (HH.out.next hb)
  clear HH
  have HH := HHq
  clear HHq
  have BXq := Lib.hid (BX.out.next hb)
  clear BX
  have BX := BXq
  clear BXq
  clear hb
  clear q0 q1 q2 q3
  have q0 := BX.out.c0
  have q1 := BX.out.c1
  have q2 := BX.out.c2
  have q3 := BX.out.c3
  go_wp2
  go_ret
  exact ⟨rfl, HB.out⟩

set_option maxRecDepth 100000 in
set_option maxHeartbeats 8000000 in
theorem heldApart_n23 (H : HeldOk) (A : Option Addr) (n c : Nat) (l : Tb) (t : Int) (A2 : Option Addr) (m c2 : Nat) (h : Hd) (w : World) (hl : TAsk w A n c l) (hh : HAsk w A2 m c2 h) (h0 : shortT l = true) (h60 : ¬ 60 < m) (hr : rightT l = true) (ht : timeB t = true) (ht2 : ¬ t < 4611686018427387904) (hy0 : 0 < m) (hy1 : rightB h.things = true) (hy2 : timeB h.frm = true) (hy3 : timeB h.to = false) :
    Calls Try.prog 4 #[.slice A n c, .int .i64 t, .agg #[.int .i64 h.id, .slice A2 m c2, .int .i64 h.frm, .int .i64 h.to]] w fun e w' => e = .returned (.bool true) ∧ Below w.heap.size w w' := by
  obtain ⟨W, hW⟩ : ∃ W, W = w.alloc (hO h A2 m c2) := ⟨_, rfl⟩
  have BX : Hid (BoxH W w.heap.size h A2 m c2) := Lib.hid (by rw [hW]; exact boxH_new w h A2 m c2)
  have hb0 : Below w.heap.size w W := by rw [hW]; exact (Below.refl _ _).alloc (Nat.le_refl _) _
  have HB := Lib.hid hb0
  have T0 := Lib.hid (hl.next hb0)
  have HH := Lib.hid (hh.next hb0)
  have hm2 := hh.few
  unfold maxLen at hm2
  unfold hO at hW
  have HSB := Lib.hid (short_is h0)
  have HL := Lib.hid hl.reads.len
  have hn30 : n ≤ 30 := by rw [← HL.out]; exact HSB.out.1
  have E0 := Lib.hid h0
  have F0 := Lib.hid (short_few' h0)
  have h60d : decide ((60 : Int) < (m : Int)) = false := by simp; omega
  have hmm : m ≤ 100 := by omega
  have HML := Lib.hid hh.reads.1
  have TQ := Lib.hid ht
  have dt : decide (t < 4611686018427387904) = false := decide_eq_false ht2
  clear ht ht2
  have hmt := may_times h
  rw [hh.reads.1] at hmt
  have d0 : decide ((0 : Int) < (m : Int)) = true := by simp; omega
  have d0' : decide (0 < m) = true := by simp; omega
  rw [d0'] at hmt
  rw [hy1] at hmt
  have RR := Lib.hid hy1
  rw [hy2] at hmt
  have TF := Lib.hid hy2
  rw [hy3] at hmt
  have TO := Lib.hid hy3
  have hE : addE l h = 1 := addE_bad hmt
  obtain ⟨gt, eg⟩ : ∃ b, gotT l h.id = b := ⟨_, rfl⟩
  have EG := Lib.hid eg
  obtain ⟨lt, et⟩ : ∃ r, addT l h = r := ⟨_, rfl⟩
  obtain ⟨x, ex⟩ : ∃ r, getT l h.id = r := ⟨_, rfl⟩
  have ET := Lib.hid et
  have EX := Lib.hid ex
  have EE := Lib.hid hE
  have RT0 := Lib.hid hr
  clear hb0 hl hh h0 h60 hr hmt et ex hE eg hy0 hy1 hy2 hy3
  go_enter Try.func4, Try.ntmps4
  go_wp2_with fail
  rw [← hW]
  refine (awake10_any H _).mono ?_
  rintro e w1 ⟨rfl, hb⟩
  have HBq := Lib.hid (HB.out.trans (hb.mono HB.out.size))
  clear HB
  have HB := HBq
  clear HBq
  have T0q := Lib.hid (T0.out.next hb)
  clear T0
  have T0 := T0q
  clear T0q
  have HHq := Lib.hid (HH.out.next hb)
  clear HH
  have HH := HHq
  clear HHq
  have BXq := Lib.hid (BX.out.next hb)
  clear BX
  have BX := BXq
  clear BXq
  clear hb
  clear hW
  go_wp2_with fail
  refine (short_b T0.out E0.out).mono ?_
  rintro e w2 ⟨rfl, hb⟩
  have HBq := Lib.hid (HB.out.trans (hb.mono HB.out.size))
  clear HB
  have HB := HBq
  clear HBq
  have T0q := Lib.hid (T0.out.next hb)
  clear T0
  have T0 := T0q
  clear T0q
  have HHq := Lib.hid (HH.out.next hb)
  clear HH
  have HH := HHq
  clear HHq
  have BXq := Lib.hid (BX.out.next hb)
  clear BX
  have BX := BXq
  clear BXq
  clear hb
  have q0 := BX.out.c0
  have q1 := BX.out.c1
  have q2 := BX.out.c2
  have q3 := BX.out.c3
  go_wp2_with fail
  refine (h10_right H T0.out F0.out RT0.out).mono ?_
  rintro e w3 ⟨rfl, hb⟩
  have HBq := Lib.hid (HB.out.trans (hb.mono HB.out.size))
  clear HB
  have HB := HBq
  clear HBq
  have T0q := Lib.hid (T0.out.next hb)
  clear T0
  have T0 := T0q
  clear T0q
  have HHq := Lib.hid (HH.out.next hb)
  clear HH
  have HH := HHq
  clear HHq
  have BXq := Lib.hid (BX.out.next hb)
  clear BX
  have BX := BXq
  clear BXq
  clear hb
  clear q0 q1 q2 q3
  go_wp2_with fail
  refine (time_b TQ.out).mono ?_
  rintro e w4 ⟨rfl, hb⟩
  have HBq := Lib.hid (HB.out.trans (hb.mono HB.out.size))
  clear HB
  have HB := HBq
  clear HBq
  have T0q := Lib.hid (T0.out.next hb)
  clear T0
  have T0 := T0q
  clear T0q
  have HHq := Lib.hid (HH.out.next hb)
  clear HH
  have HH := HHq
  clear HHq
  have BXq := Lib.hid (BX.out.next hb)
  clear BX
  have BX := BXq
  clear BXq
  clear hb
  have q0 := BX.out.c0
  have q1 := BX.out.c1
  have q2 := BX.out.c2
  have q3 := BX.out.c3
  go_wp2_with fail
  refine (h10_add H T0.out F0.out HH.out hmm ET.out EE.out).mono ?_
  rintro e w5 ⟨⟨A31, c31, rfl, hr31, hn31, hc31⟩, hb⟩
  have HBq := Lib.hid (HB.out.trans (hb.mono HB.out.size))
  clear HB
  have HB := HBq
  clear HBq
  have T0q := Lib.hid (T0.out.next hb)
  clear T0
  have T0 := T0q
  clear T0q
  have HHq := Lib.hid (HH.out.next hb)
  clear HH
  have HH := HHq
  clear HHq
  have BXq := Lib.hid (BX.out.next hb)
  clear BX
  have BX := BXq
  clear BXq
  clear hb
  clear hr31 hn31 hc31
  clear q0 q1 q2 q3
  have q0 := BX.out.c0
  have q1 := BX.out.c1
  have q2 := BX.out.c2
  have q3 := BX.out.c3
  go_wp2_with fail
  refine (h10_get H T0.out F0.out EX.out EG.out).mono ?_
  rintro e w6 ⟨⟨A32, m32, c32, rfl, hh32⟩, hb⟩
  have HBq := Lib.hid (HB.out.trans (hb.mono HB.out.size))
  clear HB
  have HB := HBq
  clear HBq
  have T0q := Lib.hid (T0.out.next hb)
  clear T0
  have T0 := T0q
  clear T0q
  have HHq := Lib.hid (HH.out.next hb)
  clear HH
  have HH := HHq
  clear HHq
  have BXq := Lib.hid (BX.out.next hb)
  clear BX
  have BX := BXq
  clear BXq
  clear hb
  clear hh32
  clear q0 q1 q2 q3
  have hb := Below.alloc (Below.refl w6.heap.size w6) (Nat.le_refl _) (.cells #[.int .i64 x.id, .slice A32 m32 c32, .int .i64 x.frm, .int .i64 x.to] 36)
  have HBq := Lib.hid (HB.out.trans (hb.mono HB.out.size))
  clear HB
  have HB := HBq
  clear HBq
  have T0q := Lib.hid (T0.out.next hb)
  clear T0
  have T0 := T0q
  clear T0q
  have HHq := Lib.hid (HH.out.next hb)
  clear HH
  have HH := HHq
  clear HHq
  have BXq := Lib.hid (BX.out.next hb)
  clear BX
  have BX := BXq
  clear BXq
  clear hb
  have q0 := BX.out.c0
  have q1 := BX.out.c1
  have q2 := BX.out.c2
  have q3 := BX.out.c3
  go_wp2_with fail
  refine (s_isSet HH.out.reads HH.out.few RR.out).mono ?_
  rintro e w7 ⟨rfl, hb⟩
  have HBq := Lib.hid (HB.out.trans (hb.mono HB.out.size))
  clear HB
  have HB := HBq
  clear HBq
  have T0q := Lib.hid (T0.out.next hb)
  clear T0
  have T0 := T0q
  clear T0q
  have HHq := Lib.hid (HH.out.next hb)
  clear HH
  have HH := HHq
  clear HHq
  have BXq := Lib.hid (BX.out.next hb)
  clear BX
  have BX := BXq
  clear BXq
  clear hb
  clear q0 q1 q2 q3
  have q0 := BX.out.c0
  have q1 := BX.out.c1
  have q2 := BX.out.c2
  have q3 := BX.out.c3
  go_wp2_with fail
  refine (time_b TF.out).mono ?_
  rintro e w8 ⟨rfl, hb⟩
  have HBq := Lib.hid (HB.out.trans (hb.mono HB.out.size))
  clear HB
  have HB := HBq
  clear HBq
  have T0q := Lib.hid (T0.out.next hb)
  clear T0
  have T0 := T0q
  clear T0q
  have HHq := Lib.hid (HH.out.next hb)
  clear HH
  have HH := HHq
  clear HHq
  have BXq := Lib.hid (BX.out.next hb)
  clear BX
  have BX := BXq
  clear BXq
  clear hb
  clear q0 q1 q2 q3
  have q0 := BX.out.c0
  have q1 := BX.out.c1
  have q2 := BX.out.c2
  have q3 := BX.out.c3
  go_wp2_with fail
  refine (time_b TO.out).mono ?_
  rintro e w9 ⟨rfl, hb⟩
  have HBq := Lib.hid (HB.out.trans (hb.mono HB.out.size))
  clear HB
  have HB := HBq
  clear HBq
  have T0q := Lib.hid (T0.out.next hb)
  clear T0
  have T0 := T0q
  clear T0q
  have HHq := Lib.hid (HH.out.next hb)
  clear HH
  have HH := HHq
  clear HHq
  have BXq := Lib.hid (BX.out.next hb)
  clear BX
  have BX := BXq
  clear BXq
  clear hb
  clear q0 q1 q2 q3
  have q0 := BX.out.c0
  have q1 := BX.out.c1
  have q2 := BX.out.c2
  have q3 := BX.out.c3
  go_wp2
  go_ret
  exact ⟨rfl, HB.out⟩

set_option maxRecDepth 100000 in
set_option maxHeartbeats 8000000 in
theorem heldApart_n24 (H : HeldOk) (A : Option Addr) (n c : Nat) (l : Tb) (t : Int) (A2 : Option Addr) (m c2 : Nat) (h : Hd) (w : World) (hl : TAsk w A n c l) (hh : HAsk w A2 m c2 h) (h0 : shortT l = true) (h60 : ¬ 60 < m) (hr : rightT l = true) (ht : timeB t = true) (ht2 : ¬ t < 4611686018427387904) (hy0 : 0 < m) (hy1 : rightB h.things = true) (hy2 : timeB h.frm = true) (hy3 : timeB h.to = true) (hy4 : ¬ h.frm < h.to) :
    Calls Try.prog 4 #[.slice A n c, .int .i64 t, .agg #[.int .i64 h.id, .slice A2 m c2, .int .i64 h.frm, .int .i64 h.to]] w fun e w' => e = .returned (.bool true) ∧ Below w.heap.size w w' := by
  obtain ⟨W, hW⟩ : ∃ W, W = w.alloc (hO h A2 m c2) := ⟨_, rfl⟩
  have BX : Hid (BoxH W w.heap.size h A2 m c2) := Lib.hid (by rw [hW]; exact boxH_new w h A2 m c2)
  have hb0 : Below w.heap.size w W := by rw [hW]; exact (Below.refl _ _).alloc (Nat.le_refl _) _
  have HB := Lib.hid hb0
  have T0 := Lib.hid (hl.next hb0)
  have HH := Lib.hid (hh.next hb0)
  have hm2 := hh.few
  unfold maxLen at hm2
  unfold hO at hW
  have HSB := Lib.hid (short_is h0)
  have HL := Lib.hid hl.reads.len
  have hn30 : n ≤ 30 := by rw [← HL.out]; exact HSB.out.1
  have E0 := Lib.hid h0
  have F0 := Lib.hid (short_few' h0)
  have h60d : decide ((60 : Int) < (m : Int)) = false := by simp; omega
  have hmm : m ≤ 100 := by omega
  have HML := Lib.hid hh.reads.1
  have TQ := Lib.hid ht
  have dt : decide (t < 4611686018427387904) = false := decide_eq_false ht2
  clear ht ht2
  have hmt := may_times h
  rw [hh.reads.1] at hmt
  have d0 : decide ((0 : Int) < (m : Int)) = true := by simp; omega
  have d0' : decide (0 < m) = true := by simp; omega
  rw [d0'] at hmt
  rw [hy1] at hmt
  have RR := Lib.hid hy1
  rw [hy2] at hmt
  have TF := Lib.hid hy2
  rw [hy3] at hmt
  have TO := Lib.hid hy3
  have d4 : decide (h.frm < h.to) = false := decide_eq_false hy4
  rw [d4] at hmt
  have hE : addE l h = 1 := addE_bad hmt
  obtain ⟨gt, eg⟩ : ∃ b, gotT l h.id = b := ⟨_, rfl⟩
  have EG := Lib.hid eg
  obtain ⟨lt, et⟩ : ∃ r, addT l h = r := ⟨_, rfl⟩
  obtain ⟨x, ex⟩ : ∃ r, getT l h.id = r := ⟨_, rfl⟩
  have ET := Lib.hid et
  have EX := Lib.hid ex
  have EE := Lib.hid hE
  have RT0 := Lib.hid hr
  clear hb0 hl hh h0 h60 hr hmt et ex hE eg hy0 hy1 hy2 hy3 hy4
  go_enter Try.func4, Try.ntmps4
  go_wp2_with fail
  rw [← hW]
  refine (awake10_any H _).mono ?_
  rintro e w1 ⟨rfl, hb⟩
  have HBq := Lib.hid (HB.out.trans (hb.mono HB.out.size))
  clear HB
  have HB := HBq
  clear HBq
  have T0q := Lib.hid (T0.out.next hb)
  clear T0
  have T0 := T0q
  clear T0q
  have HHq := Lib.hid (HH.out.next hb)
  clear HH
  have HH := HHq
  clear HHq
  have BXq := Lib.hid (BX.out.next hb)
  clear BX
  have BX := BXq
  clear BXq
  clear hb
  clear hW
  go_wp2_with fail
  refine (short_b T0.out E0.out).mono ?_
  rintro e w2 ⟨rfl, hb⟩
  have HBq := Lib.hid (HB.out.trans (hb.mono HB.out.size))
  clear HB
  have HB := HBq
  clear HBq
  have T0q := Lib.hid (T0.out.next hb)
  clear T0
  have T0 := T0q
  clear T0q
  have HHq := Lib.hid (HH.out.next hb)
  clear HH
  have HH := HHq
  clear HHq
  have BXq := Lib.hid (BX.out.next hb)
  clear BX
  have BX := BXq
  clear BXq
  clear hb
  have q0 := BX.out.c0
  have q1 := BX.out.c1
  have q2 := BX.out.c2
  have q3 := BX.out.c3
  go_wp2_with fail
  refine (h10_right H T0.out F0.out RT0.out).mono ?_
  rintro e w3 ⟨rfl, hb⟩
  have HBq := Lib.hid (HB.out.trans (hb.mono HB.out.size))
  clear HB
  have HB := HBq
  clear HBq
  have T0q := Lib.hid (T0.out.next hb)
  clear T0
  have T0 := T0q
  clear T0q
  have HHq := Lib.hid (HH.out.next hb)
  clear HH
  have HH := HHq
  clear HHq
  have BXq := Lib.hid (BX.out.next hb)
  clear BX
  have BX := BXq
  clear BXq
  clear hb
  clear q0 q1 q2 q3
  go_wp2_with fail
  refine (time_b TQ.out).mono ?_
  rintro e w4 ⟨rfl, hb⟩
  have HBq := Lib.hid (HB.out.trans (hb.mono HB.out.size))
  clear HB
  have HB := HBq
  clear HBq
  have T0q := Lib.hid (T0.out.next hb)
  clear T0
  have T0 := T0q
  clear T0q
  have HHq := Lib.hid (HH.out.next hb)
  clear HH
  have HH := HHq
  clear HHq
  have BXq := Lib.hid (BX.out.next hb)
  clear BX
  have BX := BXq
  clear BXq
  clear hb
  have q0 := BX.out.c0
  have q1 := BX.out.c1
  have q2 := BX.out.c2
  have q3 := BX.out.c3
  go_wp2_with fail
  refine (h10_add H T0.out F0.out HH.out hmm ET.out EE.out).mono ?_
  rintro e w5 ⟨⟨A31, c31, rfl, hr31, hn31, hc31⟩, hb⟩
  have HBq := Lib.hid (HB.out.trans (hb.mono HB.out.size))
  clear HB
  have HB := HBq
  clear HBq
  have T0q := Lib.hid (T0.out.next hb)
  clear T0
  have T0 := T0q
  clear T0q
  have HHq := Lib.hid (HH.out.next hb)
  clear HH
  have HH := HHq
  clear HHq
  have BXq := Lib.hid (BX.out.next hb)
  clear BX
  have BX := BXq
  clear BXq
  clear hb
  clear hr31 hn31 hc31
  clear q0 q1 q2 q3
  have q0 := BX.out.c0
  have q1 := BX.out.c1
  have q2 := BX.out.c2
  have q3 := BX.out.c3
  go_wp2_with fail
  refine (h10_get H T0.out F0.out EX.out EG.out).mono ?_
  rintro e w6 ⟨⟨A32, m32, c32, rfl, hh32⟩, hb⟩
  have HBq := Lib.hid (HB.out.trans (hb.mono HB.out.size))
  clear HB
  have HB := HBq
  clear HBq
  have T0q := Lib.hid (T0.out.next hb)
  clear T0
  have T0 := T0q
  clear T0q
  have HHq := Lib.hid (HH.out.next hb)
  clear HH
  have HH := HHq
  clear HHq
  have BXq := Lib.hid (BX.out.next hb)
  clear BX
  have BX := BXq
  clear BXq
  clear hb
  clear hh32
  clear q0 q1 q2 q3
  have hb := Below.alloc (Below.refl w6.heap.size w6) (Nat.le_refl _) (.cells #[.int .i64 x.id, .slice A32 m32 c32, .int .i64 x.frm, .int .i64 x.to] 36)
  have HBq := Lib.hid (HB.out.trans (hb.mono HB.out.size))
  clear HB
  have HB := HBq
  clear HBq
  have T0q := Lib.hid (T0.out.next hb)
  clear T0
  have T0 := T0q
  clear T0q
  have HHq := Lib.hid (HH.out.next hb)
  clear HH
  have HH := HHq
  clear HHq
  have BXq := Lib.hid (BX.out.next hb)
  clear BX
  have BX := BXq
  clear BXq
  clear hb
  have q0 := BX.out.c0
  have q1 := BX.out.c1
  have q2 := BX.out.c2
  have q3 := BX.out.c3
  go_wp2_with fail
  refine (s_isSet HH.out.reads HH.out.few RR.out).mono ?_
  rintro e w7 ⟨rfl, hb⟩
  have HBq := Lib.hid (HB.out.trans (hb.mono HB.out.size))
  clear HB
  have HB := HBq
  clear HBq
  have T0q := Lib.hid (T0.out.next hb)
  clear T0
  have T0 := T0q
  clear T0q
  have HHq := Lib.hid (HH.out.next hb)
  clear HH
  have HH := HHq
  clear HHq
  have BXq := Lib.hid (BX.out.next hb)
  clear BX
  have BX := BXq
  clear BXq
  clear hb
  clear q0 q1 q2 q3
  have q0 := BX.out.c0
  have q1 := BX.out.c1
  have q2 := BX.out.c2
  have q3 := BX.out.c3
  go_wp2_with fail
  refine (time_b TF.out).mono ?_
  rintro e w8 ⟨rfl, hb⟩
  have HBq := Lib.hid (HB.out.trans (hb.mono HB.out.size))
  clear HB
  have HB := HBq
  clear HBq
  have T0q := Lib.hid (T0.out.next hb)
  clear T0
  have T0 := T0q
  clear T0q
  have HHq := Lib.hid (HH.out.next hb)
  clear HH
  have HH := HHq
  clear HHq
  have BXq := Lib.hid (BX.out.next hb)
  clear BX
  have BX := BXq
  clear BXq
  clear hb
  clear q0 q1 q2 q3
  have q0 := BX.out.c0
  have q1 := BX.out.c1
  have q2 := BX.out.c2
  have q3 := BX.out.c3
  go_wp2_with fail
  refine (time_b TO.out).mono ?_
  rintro e w9 ⟨rfl, hb⟩
  have HBq := Lib.hid (HB.out.trans (hb.mono HB.out.size))
  clear HB
  have HB := HBq
  clear HBq
  have T0q := Lib.hid (T0.out.next hb)
  clear T0
  have T0 := T0q
  clear T0q
  have HHq := Lib.hid (HH.out.next hb)
  clear HH
  have HH := HHq
  clear HHq
  have BXq := Lib.hid (BX.out.next hb)
  clear BX
  have BX := BXq
  clear BXq
  clear hb
  clear q0 q1 q2 q3
  have q0 := BX.out.c0
  have q1 := BX.out.c1
  have q2 := BX.out.c2
  have q3 := BX.out.c3
  go_wp2
  go_ret
  exact ⟨rfl, HB.out⟩

set_option maxRecDepth 100000 in
set_option maxHeartbeats 8000000 in
theorem heldApart_n25 (H : HeldOk) (A : Option Addr) (n c : Nat) (l : Tb) (t : Int) (A2 : Option Addr) (m c2 : Nat) (h : Hd) (w : World) (hl : TAsk w A n c l) (hh : HAsk w A2 m c2 h) (h0 : shortT l = true) (h60 : ¬ 60 < m) (hr : rightT l = true) (ht : timeB t = true) (ht2 : ¬ t < 4611686018427387904) (hy0 : 0 < m) (hy1 : rightB h.things = true) (hy2 : timeB h.frm = true) (hy3 : timeB h.to = true) (hy4 : h.frm < h.to) (hy5 : hasT l h.id = true) :
    Calls Try.prog 4 #[.slice A n c, .int .i64 t, .agg #[.int .i64 h.id, .slice A2 m c2, .int .i64 h.frm, .int .i64 h.to]] w fun e w' => e = .returned (.bool true) ∧ Below w.heap.size w w' := by
  obtain ⟨W, hW⟩ : ∃ W, W = w.alloc (hO h A2 m c2) := ⟨_, rfl⟩
  have BX : Hid (BoxH W w.heap.size h A2 m c2) := Lib.hid (by rw [hW]; exact boxH_new w h A2 m c2)
  have hb0 : Below w.heap.size w W := by rw [hW]; exact (Below.refl _ _).alloc (Nat.le_refl _) _
  have HB := Lib.hid hb0
  have T0 := Lib.hid (hl.next hb0)
  have HH := Lib.hid (hh.next hb0)
  have hm2 := hh.few
  unfold maxLen at hm2
  unfold hO at hW
  have HSB := Lib.hid (short_is h0)
  have HL := Lib.hid hl.reads.len
  have hn30 : n ≤ 30 := by rw [← HL.out]; exact HSB.out.1
  have E0 := Lib.hid h0
  have F0 := Lib.hid (short_few' h0)
  have h60d : decide ((60 : Int) < (m : Int)) = false := by simp; omega
  have hmm : m ≤ 100 := by omega
  have HML := Lib.hid hh.reads.1
  have TQ := Lib.hid ht
  have dt : decide (t < 4611686018427387904) = false := decide_eq_false ht2
  clear ht ht2
  have hmt := may_times h
  rw [hh.reads.1] at hmt
  have d0 : decide ((0 : Int) < (m : Int)) = true := by simp; omega
  have d0' : decide (0 < m) = true := by simp; omega
  rw [d0'] at hmt
  rw [hy1] at hmt
  have RR := Lib.hid hy1
  rw [hy2] at hmt
  have TF := Lib.hid hy2
  rw [hy3] at hmt
  have TO := Lib.hid hy3
  have d4 : decide (h.frm < h.to) = true := decide_eq_true hy4
  rw [d4] at hmt
  have hE : addE l h = 7 := addE_there hr hmt hy5
  have eg : gotT l h.id = true := by rw [got_is hr, hy5]
  have EG := Lib.hid eg
  obtain ⟨lt, et⟩ : ∃ r, addT l h = r := ⟨_, rfl⟩
  obtain ⟨x, ex⟩ : ∃ r, getT l h.id = r := ⟨_, rfl⟩
  have ET := Lib.hid et
  have EX := Lib.hid ex
  have EE := Lib.hid hE
  have RT0 := Lib.hid hr
  clear hb0 hl hh h0 h60 hr hmt et ex hE eg hy0 hy1 hy2 hy3 hy4 hy5
  go_enter Try.func4, Try.ntmps4
  go_wp2_with fail
  rw [← hW]
  refine (awake10_any H _).mono ?_
  rintro e w1 ⟨rfl, hb⟩
  have HBq := Lib.hid (HB.out.trans (hb.mono HB.out.size))
  clear HB
  have HB := HBq
  clear HBq
  have T0q := Lib.hid (T0.out.next hb)
  clear T0
  have T0 := T0q
  clear T0q
  have HHq := Lib.hid (HH.out.next hb)
  clear HH
  have HH := HHq
  clear HHq
  have BXq := Lib.hid (BX.out.next hb)
  clear BX
  have BX := BXq
  clear BXq
  clear hb
  clear hW
  go_wp2_with fail
  refine (short_b T0.out E0.out).mono ?_
  rintro e w2 ⟨rfl, hb⟩
  have HBq := Lib.hid (HB.out.trans (hb.mono HB.out.size))
  clear HB
  have HB := HBq
  clear HBq
  have T0q := Lib.hid (T0.out.next hb)
  clear T0
  have T0 := T0q
  clear T0q
  have HHq := Lib.hid (HH.out.next hb)
  clear HH
  have HH := HHq
  clear HHq
  have BXq := Lib.hid (BX.out.next hb)
  clear BX
  have BX := BXq
  clear BXq
  clear hb
  have q0 := BX.out.c0
  have q1 := BX.out.c1
  have q2 := BX.out.c2
  have q3 := BX.out.c3
  go_wp2_with fail
  refine (h10_right H T0.out F0.out RT0.out).mono ?_
  rintro e w3 ⟨rfl, hb⟩
  have HBq := Lib.hid (HB.out.trans (hb.mono HB.out.size))
  clear HB
  have HB := HBq
  clear HBq
  have T0q := Lib.hid (T0.out.next hb)
  clear T0
  have T0 := T0q
  clear T0q
  have HHq := Lib.hid (HH.out.next hb)
  clear HH
  have HH := HHq
  clear HHq
  have BXq := Lib.hid (BX.out.next hb)
  clear BX
  have BX := BXq
  clear BXq
  clear hb
  clear q0 q1 q2 q3
  go_wp2_with fail
  refine (time_b TQ.out).mono ?_
  rintro e w4 ⟨rfl, hb⟩
  have HBq := Lib.hid (HB.out.trans (hb.mono HB.out.size))
  clear HB
  have HB := HBq
  clear HBq
  have T0q := Lib.hid (T0.out.next hb)
  clear T0
  have T0 := T0q
  clear T0q
  have HHq := Lib.hid (HH.out.next hb)
  clear HH
  have HH := HHq
  clear HHq
  have BXq := Lib.hid (BX.out.next hb)
  clear BX
  have BX := BXq
  clear BXq
  clear hb
  have q0 := BX.out.c0
  have q1 := BX.out.c1
  have q2 := BX.out.c2
  have q3 := BX.out.c3
  go_wp2_with fail
  refine (h10_add H T0.out F0.out HH.out hmm ET.out EE.out).mono ?_
  rintro e w5 ⟨⟨A31, c31, rfl, hr31, hn31, hc31⟩, hb⟩
  have HBq := Lib.hid (HB.out.trans (hb.mono HB.out.size))
  clear HB
  have HB := HBq
  clear HBq
  have T0q := Lib.hid (T0.out.next hb)
  clear T0
  have T0 := T0q
  clear T0q
  have HHq := Lib.hid (HH.out.next hb)
  clear HH
  have HH := HHq
  clear HHq
  have BXq := Lib.hid (BX.out.next hb)
  clear BX
  have BX := BXq
  clear BXq
  clear hb
  clear hr31 hn31 hc31
  clear q0 q1 q2 q3
  have q0 := BX.out.c0
  have q1 := BX.out.c1
  have q2 := BX.out.c2
  have q3 := BX.out.c3
  go_wp2_with fail
  refine (h10_get H T0.out F0.out EX.out EG.out).mono ?_
  rintro e w6 ⟨⟨A32, m32, c32, rfl, hh32⟩, hb⟩
  have HBq := Lib.hid (HB.out.trans (hb.mono HB.out.size))
  clear HB
  have HB := HBq
  clear HBq
  have T0q := Lib.hid (T0.out.next hb)
  clear T0
  have T0 := T0q
  clear T0q
  have HHq := Lib.hid (HH.out.next hb)
  clear HH
  have HH := HHq
  clear HHq
  have BXq := Lib.hid (BX.out.next hb)
  clear BX
  have BX := BXq
  clear BXq
  clear hb
  clear hh32
  clear q0 q1 q2 q3
  have hb := Below.alloc (Below.refl w6.heap.size w6) (Nat.le_refl _) (.cells #[.int .i64 x.id, .slice A32 m32 c32, .int .i64 x.frm, .int .i64 x.to] 36)
  have HBq := Lib.hid (HB.out.trans (hb.mono HB.out.size))
  clear HB
  have HB := HBq
  clear HBq
  have T0q := Lib.hid (T0.out.next hb)
  clear T0
  have T0 := T0q
  clear T0q
  have HHq := Lib.hid (HH.out.next hb)
  clear HH
  have HH := HHq
  clear HHq
  have BXq := Lib.hid (BX.out.next hb)
  clear BX
  have BX := BXq
  clear BXq
  clear hb
  have q0 := BX.out.c0
  have q1 := BX.out.c1
  have q2 := BX.out.c2
  have q3 := BX.out.c3
  go_wp2_with fail
  refine (s_isSet HH.out.reads HH.out.few RR.out).mono ?_
  rintro e w7 ⟨rfl, hb⟩
  have HBq := Lib.hid (HB.out.trans (hb.mono HB.out.size))
  clear HB
  have HB := HBq
  clear HBq
  have T0q := Lib.hid (T0.out.next hb)
  clear T0
  have T0 := T0q
  clear T0q
  have HHq := Lib.hid (HH.out.next hb)
  clear HH
  have HH := HHq
  clear HHq
  have BXq := Lib.hid (BX.out.next hb)
  clear BX
  have BX := BXq
  clear BXq
  clear hb
  clear q0 q1 q2 q3
  have q0 := BX.out.c0
  have q1 := BX.out.c1
  have q2 := BX.out.c2
  have q3 := BX.out.c3
  go_wp2_with fail
  refine (time_b TF.out).mono ?_
  rintro e w8 ⟨rfl, hb⟩
  have HBq := Lib.hid (HB.out.trans (hb.mono HB.out.size))
  clear HB
  have HB := HBq
  clear HBq
  have T0q := Lib.hid (T0.out.next hb)
  clear T0
  have T0 := T0q
  clear T0q
  have HHq := Lib.hid (HH.out.next hb)
  clear HH
  have HH := HHq
  clear HHq
  have BXq := Lib.hid (BX.out.next hb)
  clear BX
  have BX := BXq
  clear BXq
  clear hb
  clear q0 q1 q2 q3
  have q0 := BX.out.c0
  have q1 := BX.out.c1
  have q2 := BX.out.c2
  have q3 := BX.out.c3
  go_wp2_with fail
  refine (time_b TO.out).mono ?_
  rintro e w9 ⟨rfl, hb⟩
  have HBq := Lib.hid (HB.out.trans (hb.mono HB.out.size))
  clear HB
  have HB := HBq
  clear HBq
  have T0q := Lib.hid (T0.out.next hb)
  clear T0
  have T0 := T0q
  clear T0q
  have HHq := Lib.hid (HH.out.next hb)
  clear HH
  have HH := HHq
  clear HHq
  have BXq := Lib.hid (BX.out.next hb)
  clear BX
  have BX := BXq
  clear BXq
  clear hb
  clear q0 q1 q2 q3
  have q0 := BX.out.c0
  have q1 := BX.out.c1
  have q2 := BX.out.c2
  have q3 := BX.out.c3
  go_wp2
  go_ret
  exact ⟨rfl, HB.out⟩

set_option maxRecDepth 100000 in
set_option maxHeartbeats 8000000 in
theorem heldApart_n26 (H : HeldOk) (A : Option Addr) (n c : Nat) (l : Tb) (t : Int) (A2 : Option Addr) (m c2 : Nat) (h : Hd) (w : World) (hl : TAsk w A n c l) (hh : HAsk w A2 m c2 h) (h0 : shortT l = true) (h60 : ¬ 60 < m) (hr : rightT l = true) (ht : timeB t = true) (ht2 : ¬ t < 4611686018427387904) (hy0 : 0 < m) (hy1 : rightB h.things = true) (hy2 : timeB h.frm = true) (hy3 : timeB h.to = true) (hy4 : h.frm < h.to) (hy5 : hasT l h.id = false) (hy6 : apartB (busyT l h.frm h.to) h.things = true) :
    Calls Try.prog 4 #[.slice A n c, .int .i64 t, .agg #[.int .i64 h.id, .slice A2 m c2, .int .i64 h.frm, .int .i64 h.to]] w fun e w' => e = .returned (.bool true) ∧ Below w.heap.size w w' := by
  obtain ⟨W, hW⟩ : ∃ W, W = w.alloc (hO h A2 m c2) := ⟨_, rfl⟩
  have BX : Hid (BoxH W w.heap.size h A2 m c2) := Lib.hid (by rw [hW]; exact boxH_new w h A2 m c2)
  have hb0 : Below w.heap.size w W := by rw [hW]; exact (Below.refl _ _).alloc (Nat.le_refl _) _
  have HB := Lib.hid hb0
  have T0 := Lib.hid (hl.next hb0)
  have HH := Lib.hid (hh.next hb0)
  have hm2 := hh.few
  unfold maxLen at hm2
  unfold hO at hW
  have HSB := Lib.hid (short_is h0)
  have HL := Lib.hid hl.reads.len
  have hn30 : n ≤ 30 := by rw [← HL.out]; exact HSB.out.1
  have E0 := Lib.hid h0
  have F0 := Lib.hid (short_few' h0)
  have h60d : decide ((60 : Int) < (m : Int)) = false := by simp; omega
  have hmm : m ≤ 100 := by omega
  have HML := Lib.hid hh.reads.1
  have TQ := Lib.hid ht
  have dt : decide (t < 4611686018427387904) = false := decide_eq_false ht2
  clear ht ht2
  have hmt := may_times h
  rw [hh.reads.1] at hmt
  have d0 : decide ((0 : Int) < (m : Int)) = true := by simp; omega
  have d0' : decide (0 < m) = true := by simp; omega
  rw [d0'] at hmt
  rw [hy1] at hmt
  have RR := Lib.hid hy1
  rw [hy2] at hmt
  have TF := Lib.hid hy2
  rw [hy3] at hmt
  have TO := Lib.hid hy3
  have d4 : decide (h.frm < h.to) = true := decide_eq_true hy4
  rw [d4] at hmt
  have hE0 := addE_apart hr hmt hy5 HSB.out.1
  rw [hy6] at hE0
  obtain ⟨er, hE⟩ : ∃ e, addE l h = e := ⟨_, rfl⟩
  rw [hE] at hE0
  have eg : gotT l h.id = false := by rw [got_is hr, hy5]
  have EG := Lib.hid eg
  have FC0 := busy_len l h.frm h.to
  obtain ⟨rb, eb⟩ : ∃ r, busyT l h.frm h.to = r := ⟨_, rfl⟩
  rw [eb] at FC0 hy6
  have FC := Lib.hid FC0
  have EB := Lib.hid eb
  have EAP := Lib.hid hy6
  clear FC0 eb hy6
  obtain ⟨lt, et⟩ : ∃ r, addT l h = r := ⟨_, rfl⟩
  obtain ⟨x, ex⟩ : ∃ r, getT l h.id = r := ⟨_, rfl⟩
  have ET := Lib.hid et
  have EX := Lib.hid ex
  have EE := Lib.hid hE
  have RT0 := Lib.hid hr
  clear hb0 hl hh h0 h60 hr hmt et ex hE eg hy0 hy1 hy2 hy3 hy4 hy5
  go_enter Try.func4, Try.ntmps4
  go_wp2_with fail
  rw [← hW]
  refine (awake10_any H _).mono ?_
  rintro e w1 ⟨rfl, hb⟩
  have HBq := Lib.hid (HB.out.trans (hb.mono HB.out.size))
  clear HB
  have HB := HBq
  clear HBq
  have T0q := Lib.hid (T0.out.next hb)
  clear T0
  have T0 := T0q
  clear T0q
  have HHq := Lib.hid (HH.out.next hb)
  clear HH
  have HH := HHq
  clear HHq
  have BXq := Lib.hid (BX.out.next hb)
  clear BX
  have BX := BXq
  clear BXq
  clear hb
  clear hW
  go_wp2_with fail
  refine (short_b T0.out E0.out).mono ?_
  rintro e w2 ⟨rfl, hb⟩
  have HBq := Lib.hid (HB.out.trans (hb.mono HB.out.size))
  clear HB
  have HB := HBq
  clear HBq
  have T0q := Lib.hid (T0.out.next hb)
  clear T0
  have T0 := T0q
  clear T0q
  have HHq := Lib.hid (HH.out.next hb)
  clear HH
  have HH := HHq
  clear HHq
  have BXq := Lib.hid (BX.out.next hb)
  clear BX
  have BX := BXq
  clear BXq
  clear hb
  have q0 := BX.out.c0
  have q1 := BX.out.c1
  have q2 := BX.out.c2
  have q3 := BX.out.c3
  go_wp2_with fail
  refine (h10_right H T0.out F0.out RT0.out).mono ?_
  rintro e w3 ⟨rfl, hb⟩
  have HBq := Lib.hid (HB.out.trans (hb.mono HB.out.size))
  clear HB
  have HB := HBq
  clear HBq
  have T0q := Lib.hid (T0.out.next hb)
  clear T0
  have T0 := T0q
  clear T0q
  have HHq := Lib.hid (HH.out.next hb)
  clear HH
  have HH := HHq
  clear HHq
  have BXq := Lib.hid (BX.out.next hb)
  clear BX
  have BX := BXq
  clear BXq
  clear hb
  clear q0 q1 q2 q3
  go_wp2_with fail
  refine (time_b TQ.out).mono ?_
  rintro e w4 ⟨rfl, hb⟩
  have HBq := Lib.hid (HB.out.trans (hb.mono HB.out.size))
  clear HB
  have HB := HBq
  clear HBq
  have T0q := Lib.hid (T0.out.next hb)
  clear T0
  have T0 := T0q
  clear T0q
  have HHq := Lib.hid (HH.out.next hb)
  clear HH
  have HH := HHq
  clear HHq
  have BXq := Lib.hid (BX.out.next hb)
  clear BX
  have BX := BXq
  clear BXq
  clear hb
  have q0 := BX.out.c0
  have q1 := BX.out.c1
  have q2 := BX.out.c2
  have q3 := BX.out.c3
  go_wp2_with fail
  refine (h10_add H T0.out F0.out HH.out hmm ET.out EE.out).mono ?_
  rintro e w5 ⟨⟨A31, c31, rfl, hr31, hn31, hc31⟩, hb⟩
  have HBq := Lib.hid (HB.out.trans (hb.mono HB.out.size))
  clear HB
  have HB := HBq
  clear HBq
  have T0q := Lib.hid (T0.out.next hb)
  clear T0
  have T0 := T0q
  clear T0q
  have HHq := Lib.hid (HH.out.next hb)
  clear HH
  have HH := HHq
  clear HHq
  have BXq := Lib.hid (BX.out.next hb)
  clear BX
  have BX := BXq
  clear BXq
  clear hb
  clear hr31 hn31 hc31
  clear q0 q1 q2 q3
  have q0 := BX.out.c0
  have q1 := BX.out.c1
  have q2 := BX.out.c2
  have q3 := BX.out.c3
  go_wp2_with fail
  refine (h10_get H T0.out F0.out EX.out EG.out).mono ?_
  rintro e w6 ⟨⟨A32, m32, c32, rfl, hh32⟩, hb⟩
  have HBq := Lib.hid (HB.out.trans (hb.mono HB.out.size))
  clear HB
  have HB := HBq
  clear HBq
  have T0q := Lib.hid (T0.out.next hb)
  clear T0
  have T0 := T0q
  clear T0q
  have HHq := Lib.hid (HH.out.next hb)
  clear HH
  have HH := HHq
  clear HHq
  have BXq := Lib.hid (BX.out.next hb)
  clear BX
  have BX := BXq
  clear BXq
  clear hb
  clear hh32
  clear q0 q1 q2 q3
  have hb := Below.alloc (Below.refl w6.heap.size w6) (Nat.le_refl _) (.cells #[.int .i64 x.id, .slice A32 m32 c32, .int .i64 x.frm, .int .i64 x.to] 36)
  have HBq := Lib.hid (HB.out.trans (hb.mono HB.out.size))
  clear HB
  have HB := HBq
  clear HBq
  have T0q := Lib.hid (T0.out.next hb)
  clear T0
  have T0 := T0q
  clear T0q
  have HHq := Lib.hid (HH.out.next hb)
  clear HH
  have HH := HHq
  clear HHq
  have BXq := Lib.hid (BX.out.next hb)
  clear BX
  have BX := BXq
  clear BXq
  clear hb
  have q0 := BX.out.c0
  have q1 := BX.out.c1
  have q2 := BX.out.c2
  have q3 := BX.out.c3
  go_wp2_with fail
  refine (s_isSet HH.out.reads HH.out.few RR.out).mono ?_
  rintro e w7 ⟨rfl, hb⟩
  have HBq := Lib.hid (HB.out.trans (hb.mono HB.out.size))
  clear HB
  have HB := HBq
  clear HBq
  have T0q := Lib.hid (T0.out.next hb)
  clear T0
  have T0 := T0q
  clear T0q
  have HHq := Lib.hid (HH.out.next hb)
  clear HH
  have HH := HHq
  clear HHq
  have BXq := Lib.hid (BX.out.next hb)
  clear BX
  have BX := BXq
  clear BXq
  clear hb
  clear q0 q1 q2 q3
  have q0 := BX.out.c0
  have q1 := BX.out.c1
  have q2 := BX.out.c2
  have q3 := BX.out.c3
  go_wp2_with fail
  refine (time_b TF.out).mono ?_
  rintro e w8 ⟨rfl, hb⟩
  have HBq := Lib.hid (HB.out.trans (hb.mono HB.out.size))
  clear HB
  have HB := HBq
  clear HBq
  have T0q := Lib.hid (T0.out.next hb)
  clear T0
  have T0 := T0q
  clear T0q
  have HHq := Lib.hid (HH.out.next hb)
  clear HH
  have HH := HHq
  clear HHq
  have BXq := Lib.hid (BX.out.next hb)
  clear BX
  have BX := BXq
  clear BXq
  clear hb
  clear q0 q1 q2 q3
  have q0 := BX.out.c0
  have q1 := BX.out.c1
  have q2 := BX.out.c2
  have q3 := BX.out.c3
  go_wp2_with fail
  refine (time_b TO.out).mono ?_
  rintro e w9 ⟨rfl, hb⟩
  have HBq := Lib.hid (HB.out.trans (hb.mono HB.out.size))
  clear HB
  have HB := HBq
  clear HBq
  have T0q := Lib.hid (T0.out.next hb)
  clear T0
  have T0 := T0q
  clear T0q
  have HHq := Lib.hid (HH.out.next hb)
  clear HH
  have HH := HHq
  clear HHq
  have BXq := Lib.hid (BX.out.next hb)
  clear BX
  have BX := BXq
  clear BXq
  clear hb
  clear q0 q1 q2 q3
  have q0 := BX.out.c0
  have q1 := BX.out.c1
  have q2 := BX.out.c2
  have q3 := BX.out.c3
  go_wp2
  have HKEEP : Hid (∀ wx, Below w9.drew.heap.size w9.drew wx → wx.cell? ⟨w.heap.size, 0, none⟩ = some (.int .i64 h.id) ∧ wx.cell? ⟨w.heap.size, 1, none⟩ = some (.slice A2 m c2) ∧ wx.cell? ⟨w.heap.size, 2, none⟩ = some (.int .i64 h.frm) ∧ wx.cell? ⟨w.heap.size, 3, none⟩ = some (.int .i64 h.to)) := Lib.hid (fun wx hz' => by
    have hz := (bel_drew1 w9).trans (hz'.mono (bel_drew1 w9).size)
    exact ⟨keep_cell BX.out.lt BX.out.c0 hz, keep_cell BX.out.lt BX.out.c1 hz, keep_cell BX.out.lt BX.out.c2 hz, keep_cell BX.out.lt BX.out.c3 hz⟩)
  have hd := bel_drew1 w9
  have HBq := Lib.hid (HB.out.trans (hd.mono HB.out.size))
  clear HB
  have HB := HBq
  clear HBq
  have T0q := Lib.hid (T0.out.next hd)
  clear T0
  have T0 := T0q
  clear T0q
  have HHq := Lib.hid (HH.out.next hd)
  clear HH
  have HH := HHq
  clear HHq
  have BXq := Lib.hid (BX.out.next hd)
  clear BX
  have BX := BXq
  clear BXq
  clear hd
  have HY := Lib.hid (Below.refl w9.drew.heap.size w9.drew)
  go_region_held3 (fun w' => w'.cell? ⟨w.heap.size, 0, none⟩ = some (.int .i64 h.id) ∧ w'.cell? ⟨w.heap.size, 1, none⟩ = some (.slice A2 m c2) ∧ w'.cell? ⟨w.heap.size, 2, none⟩ = some (.int .i64 h.frm) ∧ w'.cell? ⟨w.heap.size, 3, none⟩ = some (.int .i64 h.to))
    (first | exact HKEEP.out _ (Below.refl _ _) | exact HKEEP.out _ HY.out | go_keep | fail)
    (first | (go_at_call 12; (with_reducible refine (h10_busy H T0.out F0.out EB.out).mono ?_); rintro e w10 ⟨⟨A33, c33, rfl, hr33, hnil33, hc33⟩, hb⟩; have HY := Lib.hid (HY.out.trans (hb.mono HY.out.size)); have HB := Lib.hid (HB.out.trans (hb.mono HB.out.size)); have T0 := Lib.hid (T0.out.next hb); have HH := Lib.hid (HH.out.next hb); have BX := Lib.hid (BX.out.next hb); have R9 := Lib.hid hr33; clear hb) | (go_at_call 24; (with_reducible refine (s_apart R9.out HH.out.reads (by have := FC.out; unfold maxLen; omega) HH.out.few EAP.out).mono ?_); rintro e w11 ⟨rfl, hb⟩; have HY := Lib.hid (HY.out.trans (hb.mono HY.out.size)); have HB := Lib.hid (HB.out.trans (hb.mono HB.out.size)); have T0 := Lib.hid (T0.out.next hb); have HH := Lib.hid (HH.out.next hb); have BX := Lib.hid (BX.out.next hb); have R9 := Lib.hid (R9.out.next hb); clear hb) | fail)
  clear HKEEP HY
  clear q0 q1 q2 q3
  go_wp2
  go_ret
  exact ⟨rfl, HB.out⟩

set_option maxRecDepth 100000 in
set_option maxHeartbeats 8000000 in
theorem heldApart_n27 (H : HeldOk) (A : Option Addr) (n c : Nat) (l : Tb) (t : Int) (A2 : Option Addr) (m c2 : Nat) (h : Hd) (w : World) (hl : TAsk w A n c l) (hh : HAsk w A2 m c2 h) (h0 : shortT l = true) (h60 : ¬ 60 < m) (hr : rightT l = true) (ht : timeB t = true) (ht2 : ¬ t < 4611686018427387904) (hy0 : 0 < m) (hy1 : rightB h.things = true) (hy2 : timeB h.frm = true) (hy3 : timeB h.to = true) (hy4 : h.frm < h.to) (hy5 : hasT l h.id = false) (hy6 : apartB (busyT l h.frm h.to) h.things = false) :
    Calls Try.prog 4 #[.slice A n c, .int .i64 t, .agg #[.int .i64 h.id, .slice A2 m c2, .int .i64 h.frm, .int .i64 h.to]] w fun e w' => e = .returned (.bool true) ∧ Below w.heap.size w w' := by
  obtain ⟨W, hW⟩ : ∃ W, W = w.alloc (hO h A2 m c2) := ⟨_, rfl⟩
  have BX : Hid (BoxH W w.heap.size h A2 m c2) := Lib.hid (by rw [hW]; exact boxH_new w h A2 m c2)
  have hb0 : Below w.heap.size w W := by rw [hW]; exact (Below.refl _ _).alloc (Nat.le_refl _) _
  have HB := Lib.hid hb0
  have T0 := Lib.hid (hl.next hb0)
  have HH := Lib.hid (hh.next hb0)
  have hm2 := hh.few
  unfold maxLen at hm2
  unfold hO at hW
  have HSB := Lib.hid (short_is h0)
  have HL := Lib.hid hl.reads.len
  have hn30 : n ≤ 30 := by rw [← HL.out]; exact HSB.out.1
  have E0 := Lib.hid h0
  have F0 := Lib.hid (short_few' h0)
  have h60d : decide ((60 : Int) < (m : Int)) = false := by simp; omega
  have hmm : m ≤ 100 := by omega
  have HML := Lib.hid hh.reads.1
  have TQ := Lib.hid ht
  have dt : decide (t < 4611686018427387904) = false := decide_eq_false ht2
  clear ht ht2
  have hmt := may_times h
  rw [hh.reads.1] at hmt
  have d0 : decide ((0 : Int) < (m : Int)) = true := by simp; omega
  have d0' : decide (0 < m) = true := by simp; omega
  rw [d0'] at hmt
  rw [hy1] at hmt
  have RR := Lib.hid hy1
  rw [hy2] at hmt
  have TF := Lib.hid hy2
  rw [hy3] at hmt
  have TO := Lib.hid hy3
  have d4 : decide (h.frm < h.to) = true := decide_eq_true hy4
  rw [d4] at hmt
  have hE0 := addE_apart hr hmt hy5 HSB.out.1
  rw [hy6] at hE0
  obtain ⟨er, hE⟩ : ∃ e, addE l h = e := ⟨_, rfl⟩
  rw [hE] at hE0
  have eg : gotT l h.id = false := by rw [got_is hr, hy5]
  have EG := Lib.hid eg
  have FC0 := busy_len l h.frm h.to
  obtain ⟨rb, eb⟩ : ∃ r, busyT l h.frm h.to = r := ⟨_, rfl⟩
  rw [eb] at FC0 hy6
  have FC := Lib.hid FC0
  have EB := Lib.hid eb
  have EAP := Lib.hid hy6
  clear FC0 eb hy6
  obtain ⟨lt, et⟩ : ∃ r, addT l h = r := ⟨_, rfl⟩
  obtain ⟨x, ex⟩ : ∃ r, getT l h.id = r := ⟨_, rfl⟩
  have ET := Lib.hid et
  have EX := Lib.hid ex
  have EE := Lib.hid hE
  have RT0 := Lib.hid hr
  clear hb0 hl hh h0 h60 hr hmt et ex hE eg hy0 hy1 hy2 hy3 hy4 hy5
  go_enter Try.func4, Try.ntmps4
  go_wp2_with fail
  rw [← hW]
  refine (awake10_any H _).mono ?_
  rintro e w1 ⟨rfl, hb⟩
  have HBq := Lib.hid (HB.out.trans (hb.mono HB.out.size))
  clear HB
  have HB := HBq
  clear HBq
  have T0q := Lib.hid (T0.out.next hb)
  clear T0
  have T0 := T0q
  clear T0q
  have HHq := Lib.hid (HH.out.next hb)
  clear HH
  have HH := HHq
  clear HHq
  have BXq := Lib.hid (BX.out.next hb)
  clear BX
  have BX := BXq
  clear BXq
  clear hb
  clear hW
  go_wp2_with fail
  refine (short_b T0.out E0.out).mono ?_
  rintro e w2 ⟨rfl, hb⟩
  have HBq := Lib.hid (HB.out.trans (hb.mono HB.out.size))
  clear HB
  have HB := HBq
  clear HBq
  have T0q := Lib.hid (T0.out.next hb)
  clear T0
  have T0 := T0q
  clear T0q
  have HHq := Lib.hid (HH.out.next hb)
  clear HH
  have HH := HHq
  clear HHq
  have BXq := Lib.hid (BX.out.next hb)
  clear BX
  have BX := BXq
  clear BXq
  clear hb
  have q0 := BX.out.c0
  have q1 := BX.out.c1
  have q2 := BX.out.c2
  have q3 := BX.out.c3
  go_wp2_with fail
  refine (h10_right H T0.out F0.out RT0.out).mono ?_
  rintro e w3 ⟨rfl, hb⟩
  have HBq := Lib.hid (HB.out.trans (hb.mono HB.out.size))
  clear HB
  have HB := HBq
  clear HBq
  have T0q := Lib.hid (T0.out.next hb)
  clear T0
  have T0 := T0q
  clear T0q
  have HHq := Lib.hid (HH.out.next hb)
  clear HH
  have HH := HHq
  clear HHq
  have BXq := Lib.hid (BX.out.next hb)
  clear BX
  have BX := BXq
  clear BXq
  clear hb
  clear q0 q1 q2 q3
  go_wp2_with fail
  refine (time_b TQ.out).mono ?_
  rintro e w4 ⟨rfl, hb⟩
  have HBq := Lib.hid (HB.out.trans (hb.mono HB.out.size))
  clear HB
  have HB := HBq
  clear HBq
  have T0q := Lib.hid (T0.out.next hb)
  clear T0
  have T0 := T0q
  clear T0q
  have HHq := Lib.hid (HH.out.next hb)
  clear HH
  have HH := HHq
  clear HHq
  have BXq := Lib.hid (BX.out.next hb)
  clear BX
  have BX := BXq
  clear BXq
  clear hb
  have q0 := BX.out.c0
  have q1 := BX.out.c1
  have q2 := BX.out.c2
  have q3 := BX.out.c3
  go_wp2_with fail
  refine (h10_add H T0.out F0.out HH.out hmm ET.out EE.out).mono ?_
  rintro e w5 ⟨⟨A31, c31, rfl, hr31, hn31, hc31⟩, hb⟩
  have HBq := Lib.hid (HB.out.trans (hb.mono HB.out.size))
  clear HB
  have HB := HBq
  clear HBq
  have T0q := Lib.hid (T0.out.next hb)
  clear T0
  have T0 := T0q
  clear T0q
  have HHq := Lib.hid (HH.out.next hb)
  clear HH
  have HH := HHq
  clear HHq
  have BXq := Lib.hid (BX.out.next hb)
  clear BX
  have BX := BXq
  clear BXq
  clear hb
  clear hr31 hn31 hc31
  clear q0 q1 q2 q3
  have q0 := BX.out.c0
  have q1 := BX.out.c1
  have q2 := BX.out.c2
  have q3 := BX.out.c3
  go_wp2_with fail
  refine (h10_get H T0.out F0.out EX.out EG.out).mono ?_
  rintro e w6 ⟨⟨A32, m32, c32, rfl, hh32⟩, hb⟩
  have HBq := Lib.hid (HB.out.trans (hb.mono HB.out.size))
  clear HB
  have HB := HBq
  clear HBq
  have T0q := Lib.hid (T0.out.next hb)
  clear T0
  have T0 := T0q
  clear T0q
  have HHq := Lib.hid (HH.out.next hb)
  clear HH
  have HH := HHq
  clear HHq
  have BXq := Lib.hid (BX.out.next hb)
  clear BX
  have BX := BXq
  clear BXq
  clear hb
  clear hh32
  clear q0 q1 q2 q3
  have hb := Below.alloc (Below.refl w6.heap.size w6) (Nat.le_refl _) (.cells #[.int .i64 x.id, .slice A32 m32 c32, .int .i64 x.frm, .int .i64 x.to] 36)
  have HBq := Lib.hid (HB.out.trans (hb.mono HB.out.size))
  clear HB
  have HB := HBq
  clear HBq
  have T0q := Lib.hid (T0.out.next hb)
  clear T0
  have T0 := T0q
  clear T0q
  have HHq := Lib.hid (HH.out.next hb)
  clear HH
  have HH := HHq
  clear HHq
  have BXq := Lib.hid (BX.out.next hb)
  clear BX
  have BX := BXq
  clear BXq
  clear hb
  have q0 := BX.out.c0
  have q1 := BX.out.c1
  have q2 := BX.out.c2
  have q3 := BX.out.c3
  go_wp2_with fail
  refine (s_isSet HH.out.reads HH.out.few RR.out).mono ?_
  rintro e w7 ⟨rfl, hb⟩
  have HBq := Lib.hid (HB.out.trans (hb.mono HB.out.size))
  clear HB
  have HB := HBq
  clear HBq
  have T0q := Lib.hid (T0.out.next hb)
  clear T0
  have T0 := T0q
  clear T0q
  have HHq := Lib.hid (HH.out.next hb)
  clear HH
  have HH := HHq
  clear HHq
  have BXq := Lib.hid (BX.out.next hb)
  clear BX
  have BX := BXq
  clear BXq
  clear hb
  clear q0 q1 q2 q3
  have q0 := BX.out.c0
  have q1 := BX.out.c1
  have q2 := BX.out.c2
  have q3 := BX.out.c3
  go_wp2_with fail
  refine (time_b TF.out).mono ?_
  rintro e w8 ⟨rfl, hb⟩
  have HBq := Lib.hid (HB.out.trans (hb.mono HB.out.size))
  clear HB
  have HB := HBq
  clear HBq
  have T0q := Lib.hid (T0.out.next hb)
  clear T0
  have T0 := T0q
  clear T0q
  have HHq := Lib.hid (HH.out.next hb)
  clear HH
  have HH := HHq
  clear HHq
  have BXq := Lib.hid (BX.out.next hb)
  clear BX
  have BX := BXq
  clear BXq
  clear hb
  clear q0 q1 q2 q3
  have q0 := BX.out.c0
  have q1 := BX.out.c1
  have q2 := BX.out.c2
  have q3 := BX.out.c3
  go_wp2_with fail
  refine (time_b TO.out).mono ?_
  rintro e w9 ⟨rfl, hb⟩
  have HBq := Lib.hid (HB.out.trans (hb.mono HB.out.size))
  clear HB
  have HB := HBq
  clear HBq
  have T0q := Lib.hid (T0.out.next hb)
  clear T0
  have T0 := T0q
  clear T0q
  have HHq := Lib.hid (HH.out.next hb)
  clear HH
  have HH := HHq
  clear HHq
  have BXq := Lib.hid (BX.out.next hb)
  clear BX
  have BX := BXq
  clear BXq
  clear hb
  clear q0 q1 q2 q3
  have q0 := BX.out.c0
  have q1 := BX.out.c1
  have q2 := BX.out.c2
  have q3 := BX.out.c3
  go_wp2
  have HKEEP : Hid (∀ wx, Below w9.drew.heap.size w9.drew wx → wx.cell? ⟨w.heap.size, 0, none⟩ = some (.int .i64 h.id) ∧ wx.cell? ⟨w.heap.size, 1, none⟩ = some (.slice A2 m c2) ∧ wx.cell? ⟨w.heap.size, 2, none⟩ = some (.int .i64 h.frm) ∧ wx.cell? ⟨w.heap.size, 3, none⟩ = some (.int .i64 h.to)) := Lib.hid (fun wx hz' => by
    have hz := (bel_drew1 w9).trans (hz'.mono (bel_drew1 w9).size)
    exact ⟨keep_cell BX.out.lt BX.out.c0 hz, keep_cell BX.out.lt BX.out.c1 hz, keep_cell BX.out.lt BX.out.c2 hz, keep_cell BX.out.lt BX.out.c3 hz⟩)
  have hd := bel_drew1 w9
  have HBq := Lib.hid (HB.out.trans (hd.mono HB.out.size))
  clear HB
  have HB := HBq
  clear HBq
  have T0q := Lib.hid (T0.out.next hd)
  clear T0
  have T0 := T0q
  clear T0q
  have HHq := Lib.hid (HH.out.next hd)
  clear HH
  have HH := HHq
  clear HHq
  have BXq := Lib.hid (BX.out.next hd)
  clear BX
  have BX := BXq
  clear BXq
  clear hd
  have HY := Lib.hid (Below.refl w9.drew.heap.size w9.drew)
  go_region_held3 (fun w' => w'.cell? ⟨w.heap.size, 0, none⟩ = some (.int .i64 h.id) ∧ w'.cell? ⟨w.heap.size, 1, none⟩ = some (.slice A2 m c2) ∧ w'.cell? ⟨w.heap.size, 2, none⟩ = some (.int .i64 h.frm) ∧ w'.cell? ⟨w.heap.size, 3, none⟩ = some (.int .i64 h.to))
    (first | exact HKEEP.out _ (Below.refl _ _) | exact HKEEP.out _ HY.out | go_keep | fail)
    (first | (go_at_call 12; (with_reducible refine (h10_busy H T0.out F0.out EB.out).mono ?_); rintro e w10 ⟨⟨A33, c33, rfl, hr33, hnil33, hc33⟩, hb⟩; have HY := Lib.hid (HY.out.trans (hb.mono HY.out.size)); have HB := Lib.hid (HB.out.trans (hb.mono HB.out.size)); have T0 := Lib.hid (T0.out.next hb); have HH := Lib.hid (HH.out.next hb); have BX := Lib.hid (BX.out.next hb); have R9 := Lib.hid hr33; clear hb) | (go_at_call 24; (with_reducible refine (s_apart R9.out HH.out.reads (by have := FC.out; unfold maxLen; omega) HH.out.few EAP.out).mono ?_); rintro e w11 ⟨rfl, hb⟩; have HY := Lib.hid (HY.out.trans (hb.mono HY.out.size)); have HB := Lib.hid (HB.out.trans (hb.mono HB.out.size)); have T0 := Lib.hid (T0.out.next hb); have HH := Lib.hid (HH.out.next hb); have BX := Lib.hid (BX.out.next hb); have R9 := Lib.hid (R9.out.next hb); clear hb) | fail)
  clear HKEEP HY
  clear q0 q1 q2 q3
  go_wp2
  go_ret
  exact ⟨rfl, HB.out⟩

set_option maxRecDepth 100000 in
set_option maxHeartbeats 8000000 in
theorem heldApart_y0 (H : HeldOk) (A : Option Addr) (n c : Nat) (l : Tb) (t : Int) (A2 : Option Addr) (m c2 : Nat) (h : Hd) (w : World) (hl : TAsk w A n c l) (hh : HAsk w A2 m c2 h) (h0 : shortT l = true) (h60 : ¬ 60 < m) (hr : rightT l = true) (ht : timeB t = true) (ht2 : t < 4611686018427387904) (hy0 : m = 0) :
    Calls Try.prog 4 #[.slice A n c, .int .i64 t, .agg #[.int .i64 h.id, .slice A2 m c2, .int .i64 h.frm, .int .i64 h.to]] w fun e w' => e = .returned (.bool true) ∧ Below w.heap.size w w' := by
  obtain ⟨W, hW⟩ : ∃ W, W = w.alloc (hO h A2 m c2) := ⟨_, rfl⟩
  have BX : Hid (BoxH W w.heap.size h A2 m c2) := Lib.hid (by rw [hW]; exact boxH_new w h A2 m c2)
  have hb0 : Below w.heap.size w W := by rw [hW]; exact (Below.refl _ _).alloc (Nat.le_refl _) _
  have HB := Lib.hid hb0
  have T0 := Lib.hid (hl.next hb0)
  have HH := Lib.hid (hh.next hb0)
  have hm2 := hh.few
  unfold maxLen at hm2
  unfold hO at hW
  have HSB := Lib.hid (short_is h0)
  have HL := Lib.hid hl.reads.len
  have hn30 : n ≤ 30 := by rw [← HL.out]; exact HSB.out.1
  have E0 := Lib.hid h0
  have F0 := Lib.hid (short_few' h0)
  have h60d : decide ((60 : Int) < (m : Int)) = false := by simp; omega
  have hmm : m ≤ 100 := by omega
  have HML := Lib.hid hh.reads.1
  have TQ := Lib.hid ht
  have dt : decide (t < 4611686018427387904) = true := decide_eq_true ht2
  have htp : 0 ≤ t := by unfold timeB at ht; exact (of_decide_eq_true ht).1
  have BS0 := busy_sum hr t
  have FB0 := busy_len l t (t + 1)
  obtain ⟨rt, ert⟩ : ∃ r, busyT l t (t + 1) = r := ⟨_, rfl⟩
  rw [ert] at BS0 FB0
  have BS := Lib.hid BS0
  have FB := Lib.hid FB0
  have EBT := Lib.hid ert
  clear ht BS0 FB0 ert
  have hmt := may_times h
  rw [hh.reads.1] at hmt
  have d0 : decide ((0 : Int) < (m : Int)) = false := by simp; omega
  have d0' : decide (0 < m) = false := by simp; omega
  rw [d0'] at hmt
  have _h60 := h60
  clear _h60
  have hE : addE l h = 1 := addE_bad hmt
  obtain ⟨gt, eg⟩ : ∃ b, gotT l h.id = b := ⟨_, rfl⟩
  have EG := Lib.hid eg
  obtain ⟨lt, et⟩ : ∃ r, addT l h = r := ⟨_, rfl⟩
  obtain ⟨x, ex⟩ : ∃ r, getT l h.id = r := ⟨_, rfl⟩
  have ET := Lib.hid et
  have EX := Lib.hid ex
  have EE := Lib.hid hE
  have RT0 := Lib.hid hr
  clear hb0 hl hh h0 h60 hr hmt et ex hE eg hy0
  go_enter Try.func4, Try.ntmps4
  go_wp2_with fail
  rw [← hW]
  refine (awake10_any H _).mono ?_
  rintro e w1 ⟨rfl, hb⟩
  have HBq := Lib.hid (HB.out.trans (hb.mono HB.out.size))
  clear HB
  have HB := HBq
  clear HBq
  have T0q := Lib.hid (T0.out.next hb)
  clear T0
  have T0 := T0q
  clear T0q
  have HHq := Lib.hid (HH.out.next hb)
  clear HH
  have HH := HHq
  clear HHq
  have BXq := Lib.hid (BX.out.next hb)
  clear BX
  have BX := BXq
  clear BXq
  clear hb
  clear hW
  go_wp2_with fail
  refine (short_b T0.out E0.out).mono ?_
  rintro e w2 ⟨rfl, hb⟩
  have HBq := Lib.hid (HB.out.trans (hb.mono HB.out.size))
  clear HB
  have HB := HBq
  clear HBq
  have T0q := Lib.hid (T0.out.next hb)
  clear T0
  have T0 := T0q
  clear T0q
  have HHq := Lib.hid (HH.out.next hb)
  clear HH
  have HH := HHq
  clear HHq
  have BXq := Lib.hid (BX.out.next hb)
  clear BX
  have BX := BXq
  clear BXq
  clear hb
  have q0 := BX.out.c0
  have q1 := BX.out.c1
  have q2 := BX.out.c2
  have q3 := BX.out.c3
  go_wp2_with fail
  refine (h10_right H T0.out F0.out RT0.out).mono ?_
  rintro e w3 ⟨rfl, hb⟩
  have HBq := Lib.hid (HB.out.trans (hb.mono HB.out.size))
  clear HB
  have HB := HBq
  clear HBq
  have T0q := Lib.hid (T0.out.next hb)
  clear T0
  have T0 := T0q
  clear T0q
  have HHq := Lib.hid (HH.out.next hb)
  clear HH
  have HH := HHq
  clear HHq
  have BXq := Lib.hid (BX.out.next hb)
  clear BX
  have BX := BXq
  clear BXq
  clear hb
  clear q0 q1 q2 q3
  go_wp2_with fail
  refine (time_b TQ.out).mono ?_
  rintro e w4 ⟨rfl, hb⟩
  have HBq := Lib.hid (HB.out.trans (hb.mono HB.out.size))
  clear HB
  have HB := HBq
  clear HBq
  have T0q := Lib.hid (T0.out.next hb)
  clear T0
  have T0 := T0q
  clear T0q
  have HHq := Lib.hid (HH.out.next hb)
  clear HH
  have HH := HHq
  clear HHq
  have BXq := Lib.hid (BX.out.next hb)
  clear BX
  have BX := BXq
  clear BXq
  clear hb
  go_wp2
  go_loopw [7, 8] (fun sv kv wr => ∃ k : Nat, k ≤ n ∧ kv = .int .i64 k ∧ sv = .int .i64 (sumN l t k) ∧ Below w4.heap.size w4 wr) (fun _ kv _ => n - (intOf kv).toNat)
  case atStart => exact ⟨0, Nat.zero_le _, rfl, by simp [sumN], Below.refl _ _⟩
  case round =>
    obtain ⟨k, hk, rfl, rfl, hb⟩ := hrel
    have HR0 := Lib.hid hb
    have HBq := Lib.hid (HB.out.trans (hb.mono HB.out.size))
    clear HB
    have HB := HBq
    clear HBq
    have T0q := Lib.hid (T0.out.next hb)
    clear T0
    have T0 := T0q
    clear T0q
    have HHq := Lib.hid (HH.out.next hb)
    clear HH
    have HH := HHq
    clear HHq
    have BXq := Lib.hid (BX.out.next hb)
    clear BX
    have BX := BXq
    clear BXq
    clear hb
    have HR1 := Lib.hid HR0.out
    clear HR0
    by_cases hlt : k < n
    · have hkl : k < l.length := by rw [HL.out]; exact hlt
      have hsf := sumN_few HSB.out t (k := k) (by omega)
      have hx60 := HSB.out.2 _ (getD_in hkl)
      have hsum := fun x (hx : l.getD k hd0 = x) => sumN_at t hkl hx
      obtain ⟨b, off, A8, m8, c8, rfl, hbl, z0, z1, z2, z3, hx⟩ := RT.one T0.out.reads hlt
      have hm8 := hx.reads.1
      obtain ⟨x, hxx⟩ : ∃ x, l.getD k hd0 = x := ⟨_, rfl⟩
      have hs1 := hsum x hxx
      rw [hxx] at z0 z2 z3 hx60 hm8
      obtain ⟨s, hs⟩ : ∃ s, sumN l t k = s := ⟨_, rfl⟩
      rw [hs] at hs1 hsf
      rw [hs]
      have Z1 := Lib.hid (CellK.mk (p := ⟨b, off + k * 4 + 1, none⟩) hbl z1)
      rw [hm8] at hx60
      cases hmz : meetsZ x.frm x.to t (t + 1) with
      | true =>
        have ME := Lib.hid hmz
        rw [hmz, if_pos rfl, hm8] at hs1
        have HS := Lib.hid hs1
        clear hx hxx hs hs1 hmz hsum hm8 z0 z1 hkl
        go_wp2
        have zc0 : ∀ p : Later wr, p.now.cell? ⟨b, off + k * 4 + 2, none⟩ = some (.int .i64 x.frm) := fun _ => Later.cell hbl z2
        have zc1 : ∀ p : Later wr, p.now.cell? ⟨b, off + k * 4 + 3, none⟩ = some (.int .i64 x.to) := fun _ => Later.cell hbl z3
        refine wp_region_later (by kernel_rfl) (by kernel_rfl) ?_
        repeat (first | go_big_quiet_skip | (go_big_quiet_want; go_big_quiet_op; first | go_big_quiet_on | (apply Exists.intro; refine ⟨fun pz => ?_, ?_⟩; (first | (go_at_call 20; exact Calls.later_of (meets_any ME.out)) | fail); go_big_quiet_on)))
        refine wpQuiet_nil ?_
        intro _ hw'
        obtain ⟨pz, rfl⟩ := hw'
        obtain ⟨w5, hb⟩ := pz
        try dsimp only
        clear zc0 zc1
        have HBq := Lib.hid (HB.out.trans (hb.mono HB.out.size))
        clear HB
        have HB := HBq
        clear HBq
        have HR1q := Lib.hid (HR1.out.trans (hb.mono HR1.out.size))
        clear HR1
        have HR1 := HR1q
        clear HR1q
        have T0q := Lib.hid (T0.out.next hb)
        clear T0
        have T0 := T0q
        clear T0q
        have HHq := Lib.hid (HH.out.next hb)
        clear HH
        have HH := HHq
        clear HHq
        have BXq := Lib.hid (BX.out.next hb)
        clear BX
        have BX := BXq
        clear BXq
        have Z1q := Lib.hid (Z1.out.next hb)
        clear Z1
        have Z1 := Z1q
        clear Z1q
        clear hb
        clear z2 z3 hbl
        have z1 := Z1.out.at'
        go_wp2
        go_roundw
        case rel => exact ⟨k + 1, by omega, by go_num, (by rw [HS.out]; go_num), HR1.out⟩
        case measure => simp [intOf]; omega
      | false =>
        have ME := Lib.hid hmz
        rw [hmz, if_neg (by simp)] at hs1
        have HS := Lib.hid hs1
        clear hx hxx hs hs1 hmz hsum hm8 z0 z1 hkl
        go_wp2
        have zc0 : ∀ p : Later wr, p.now.cell? ⟨b, off + k * 4 + 2, none⟩ = some (.int .i64 x.frm) := fun _ => Later.cell hbl z2
        have zc1 : ∀ p : Later wr, p.now.cell? ⟨b, off + k * 4 + 3, none⟩ = some (.int .i64 x.to) := fun _ => Later.cell hbl z3
        refine wp_region_later (by kernel_rfl) (by kernel_rfl) ?_
        repeat (first | go_big_quiet_skip | (go_big_quiet_want; go_big_quiet_op; first | go_big_quiet_on | (apply Exists.intro; refine ⟨fun pz => ?_, ?_⟩; (first | (go_at_call 20; exact Calls.later_of (meets_any ME.out)) | fail); go_big_quiet_on)))
        refine wpQuiet_nil ?_
        intro _ hw'
        obtain ⟨pz, rfl⟩ := hw'
        obtain ⟨w5, hb⟩ := pz
        try dsimp only
        clear zc0 zc1
        have HBq := Lib.hid (HB.out.trans (hb.mono HB.out.size))
        clear HB
        have HB := HBq
        clear HBq
        have HR1q := Lib.hid (HR1.out.trans (hb.mono HR1.out.size))
        clear HR1
        have HR1 := HR1q
        clear HR1q
        have T0q := Lib.hid (T0.out.next hb)
        clear T0
        have T0 := T0q
        clear T0q
        have HHq := Lib.hid (HH.out.next hb)
        clear HH
        have HH := HHq
        clear HHq
        have BXq := Lib.hid (BX.out.next hb)
        clear BX
        have BX := BXq
        clear BXq
        have Z1q := Lib.hid (Z1.out.next hb)
        clear Z1
        have Z1 := Z1q
        clear Z1q
        clear hb
        clear z2 z3 hbl
        go_wp2
        go_roundw
        case rel => exact ⟨k + 1, by omega, by go_num, (by rw [HS.out]; simp), HR1.out⟩
        case measure => simp [intOf]; omega
    · have hkn : k = n := by omega
      have hsn : sumN l t k = rt.length := by rw [hkn, ← HL.out]; exact BS.out.symm
      have hrt := FB.out
      rw [hsn]
      clear hsn
      go_wp2_with fail
      refine (h10_busy H T0.out F0.out EBT.out).mono ?_
      rintro e w6 ⟨⟨A41, c41, rfl, hr41, hnil41, hc41⟩, hb⟩
      have HBq := Lib.hid (HB.out.trans (hb.mono HB.out.size))
      clear HB
      have HB := HBq
      clear HBq
      have T0q := Lib.hid (T0.out.next hb)
      clear T0
      have T0 := T0q
      clear T0q
      have HHq := Lib.hid (HH.out.next hb)
      clear HH
      have HH := HHq
      clear HHq
      have BXq := Lib.hid (BX.out.next hb)
      clear BX
      have BX := BXq
      clear BXq
      clear hb
      clear hr41 hnil41 hc41
      have q0 := BX.out.c0
      have q1 := BX.out.c1
      have q2 := BX.out.c2
      have q3 := BX.out.c3
      go_wp2_with fail
      refine (h10_add H T0.out F0.out HH.out hmm ET.out EE.out).mono ?_
      rintro e w7 ⟨⟨A31, c31, rfl, hr31, hn31, hc31⟩, hb⟩
      have HBq := Lib.hid (HB.out.trans (hb.mono HB.out.size))
      clear HB
      have HB := HBq
      clear HBq
      have T0q := Lib.hid (T0.out.next hb)
      clear T0
      have T0 := T0q
      clear T0q
      have HHq := Lib.hid (HH.out.next hb)
      clear HH
      have HH := HHq
      clear HHq
      have BXq := Lib.hid (BX.out.next hb)
      clear BX
      have BX := BXq
      clear BXq
      clear hb
      clear hr31 hn31 hc31
      clear q0 q1 q2 q3
      have q0 := BX.out.c0
      have q1 := BX.out.c1
      have q2 := BX.out.c2
      have q3 := BX.out.c3
      go_wp2_with fail
      refine (h10_get H T0.out F0.out EX.out EG.out).mono ?_
      rintro e w8 ⟨⟨A32, m32, c32, rfl, hh32⟩, hb⟩
      have HBq := Lib.hid (HB.out.trans (hb.mono HB.out.size))
      clear HB
      have HB := HBq
      clear HBq
      have T0q := Lib.hid (T0.out.next hb)
      clear T0
      have T0 := T0q
      clear T0q
      have HHq := Lib.hid (HH.out.next hb)
      clear HH
      have HH := HHq
      clear HHq
      have BXq := Lib.hid (BX.out.next hb)
      clear BX
      have BX := BXq
      clear BXq
      clear hb
      clear hh32
      clear q0 q1 q2 q3
      have hb := Below.alloc (Below.refl w8.heap.size w8) (Nat.le_refl _) (.cells #[.int .i64 x.id, .slice A32 m32 c32, .int .i64 x.frm, .int .i64 x.to] 36)
      have HBq := Lib.hid (HB.out.trans (hb.mono HB.out.size))
      clear HB
      have HB := HBq
      clear HBq
      have T0q := Lib.hid (T0.out.next hb)
      clear T0
      have T0 := T0q
      clear T0q
      have HHq := Lib.hid (HH.out.next hb)
      clear HH
      have HH := HHq
      clear HHq
      have BXq := Lib.hid (BX.out.next hb)
      clear BX
      have BX := BXq
      clear BXq
      clear hb
      have q0 := BX.out.c0
      have q1 := BX.out.c1
      have q2 := BX.out.c2
      have q3 := BX.out.c3
      go_wp2
      go_ret
      exact ⟨rfl, HB.out⟩

set_option maxRecDepth 100000 in
set_option maxHeartbeats 8000000 in
theorem heldApart_y1 (H : HeldOk) (A : Option Addr) (n c : Nat) (l : Tb) (t : Int) (A2 : Option Addr) (m c2 : Nat) (h : Hd) (w : World) (hl : TAsk w A n c l) (hh : HAsk w A2 m c2 h) (h0 : shortT l = true) (h60 : ¬ 60 < m) (hr : rightT l = true) (ht : timeB t = true) (ht2 : t < 4611686018427387904) (hy0 : 0 < m) (hy1 : rightB h.things = false) :
    Calls Try.prog 4 #[.slice A n c, .int .i64 t, .agg #[.int .i64 h.id, .slice A2 m c2, .int .i64 h.frm, .int .i64 h.to]] w fun e w' => e = .returned (.bool true) ∧ Below w.heap.size w w' := by
  obtain ⟨W, hW⟩ : ∃ W, W = w.alloc (hO h A2 m c2) := ⟨_, rfl⟩
  have BX : Hid (BoxH W w.heap.size h A2 m c2) := Lib.hid (by rw [hW]; exact boxH_new w h A2 m c2)
  have hb0 : Below w.heap.size w W := by rw [hW]; exact (Below.refl _ _).alloc (Nat.le_refl _) _
  have HB := Lib.hid hb0
  have T0 := Lib.hid (hl.next hb0)
  have HH := Lib.hid (hh.next hb0)
  have hm2 := hh.few
  unfold maxLen at hm2
  unfold hO at hW
  have HSB := Lib.hid (short_is h0)
  have HL := Lib.hid hl.reads.len
  have hn30 : n ≤ 30 := by rw [← HL.out]; exact HSB.out.1
  have E0 := Lib.hid h0
  have F0 := Lib.hid (short_few' h0)
  have h60d : decide ((60 : Int) < (m : Int)) = false := by simp; omega
  have hmm : m ≤ 100 := by omega
  have HML := Lib.hid hh.reads.1
  have TQ := Lib.hid ht
  have dt : decide (t < 4611686018427387904) = true := decide_eq_true ht2
  have htp : 0 ≤ t := by unfold timeB at ht; exact (of_decide_eq_true ht).1
  have BS0 := busy_sum hr t
  have FB0 := busy_len l t (t + 1)
  obtain ⟨rt, ert⟩ : ∃ r, busyT l t (t + 1) = r := ⟨_, rfl⟩
  rw [ert] at BS0 FB0
  have BS := Lib.hid BS0
  have FB := Lib.hid FB0
  have EBT := Lib.hid ert
  clear ht BS0 FB0 ert
  have hmt := may_times h
  rw [hh.reads.1] at hmt
  have d0 : decide ((0 : Int) < (m : Int)) = true := by simp; omega
  have d0' : decide (0 < m) = true := by simp; omega
  rw [d0'] at hmt
  rw [hy1] at hmt
  have RR := Lib.hid hy1
  have hE : addE l h = 1 := addE_bad hmt
  obtain ⟨gt, eg⟩ : ∃ b, gotT l h.id = b := ⟨_, rfl⟩
  have EG := Lib.hid eg
  obtain ⟨lt, et⟩ : ∃ r, addT l h = r := ⟨_, rfl⟩
  obtain ⟨x, ex⟩ : ∃ r, getT l h.id = r := ⟨_, rfl⟩
  have ET := Lib.hid et
  have EX := Lib.hid ex
  have EE := Lib.hid hE
  have RT0 := Lib.hid hr
  clear hb0 hl hh h0 h60 hr hmt et ex hE eg hy0 hy1
  go_enter Try.func4, Try.ntmps4
  go_wp2_with fail
  rw [← hW]
  refine (awake10_any H _).mono ?_
  rintro e w1 ⟨rfl, hb⟩
  have HBq := Lib.hid (HB.out.trans (hb.mono HB.out.size))
  clear HB
  have HB := HBq
  clear HBq
  have T0q := Lib.hid (T0.out.next hb)
  clear T0
  have T0 := T0q
  clear T0q
  have HHq := Lib.hid (HH.out.next hb)
  clear HH
  have HH := HHq
  clear HHq
  have BXq := Lib.hid (BX.out.next hb)
  clear BX
  have BX := BXq
  clear BXq
  clear hb
  clear hW
  go_wp2_with fail
  refine (short_b T0.out E0.out).mono ?_
  rintro e w2 ⟨rfl, hb⟩
  have HBq := Lib.hid (HB.out.trans (hb.mono HB.out.size))
  clear HB
  have HB := HBq
  clear HBq
  have T0q := Lib.hid (T0.out.next hb)
  clear T0
  have T0 := T0q
  clear T0q
  have HHq := Lib.hid (HH.out.next hb)
  clear HH
  have HH := HHq
  clear HHq
  have BXq := Lib.hid (BX.out.next hb)
  clear BX
  have BX := BXq
  clear BXq
  clear hb
  have q0 := BX.out.c0
  have q1 := BX.out.c1
  have q2 := BX.out.c2
  have q3 := BX.out.c3
  go_wp2_with fail
  refine (h10_right H T0.out F0.out RT0.out).mono ?_
  rintro e w3 ⟨rfl, hb⟩
  have HBq := Lib.hid (HB.out.trans (hb.mono HB.out.size))
  clear HB
  have HB := HBq
  clear HBq
  have T0q := Lib.hid (T0.out.next hb)
  clear T0
  have T0 := T0q
  clear T0q
  have HHq := Lib.hid (HH.out.next hb)
  clear HH
  have HH := HHq
  clear HHq
  have BXq := Lib.hid (BX.out.next hb)
  clear BX
  have BX := BXq
  clear BXq
  clear hb
  clear q0 q1 q2 q3
  go_wp2_with fail
  refine (time_b TQ.out).mono ?_
  rintro e w4 ⟨rfl, hb⟩
  have HBq := Lib.hid (HB.out.trans (hb.mono HB.out.size))
  clear HB
  have HB := HBq
  clear HBq
  have T0q := Lib.hid (T0.out.next hb)
  clear T0
  have T0 := T0q
  clear T0q
  have HHq := Lib.hid (HH.out.next hb)
  clear HH
  have HH := HHq
  clear HHq
  have BXq := Lib.hid (BX.out.next hb)
  clear BX
  have BX := BXq
  clear BXq
  clear hb
  go_wp2
  go_loopw [7, 8] (fun sv kv wr => ∃ k : Nat, k ≤ n ∧ kv = .int .i64 k ∧ sv = .int .i64 (sumN l t k) ∧ Below w4.heap.size w4 wr) (fun _ kv _ => n - (intOf kv).toNat)
  case atStart => exact ⟨0, Nat.zero_le _, rfl, by simp [sumN], Below.refl _ _⟩
  case round =>
    obtain ⟨k, hk, rfl, rfl, hb⟩ := hrel
    have HR0 := Lib.hid hb
    have HBq := Lib.hid (HB.out.trans (hb.mono HB.out.size))
    clear HB
    have HB := HBq
    clear HBq
    have T0q := Lib.hid (T0.out.next hb)
    clear T0
    have T0 := T0q
    clear T0q
    have HHq := Lib.hid (HH.out.next hb)
    clear HH
    have HH := HHq
    clear HHq
    have BXq := Lib.hid (BX.out.next hb)
    clear BX
    have BX := BXq
    clear BXq
    clear hb
    have HR1 := Lib.hid HR0.out
    clear HR0
    by_cases hlt : k < n
    · have hkl : k < l.length := by rw [HL.out]; exact hlt
      have hsf := sumN_few HSB.out t (k := k) (by omega)
      have hx60 := HSB.out.2 _ (getD_in hkl)
      have hsum := fun x (hx : l.getD k hd0 = x) => sumN_at t hkl hx
      obtain ⟨b, off, A8, m8, c8, rfl, hbl, z0, z1, z2, z3, hx⟩ := RT.one T0.out.reads hlt
      have hm8 := hx.reads.1
      obtain ⟨x, hxx⟩ : ∃ x, l.getD k hd0 = x := ⟨_, rfl⟩
      have hs1 := hsum x hxx
      rw [hxx] at z0 z2 z3 hx60 hm8
      obtain ⟨s, hs⟩ : ∃ s, sumN l t k = s := ⟨_, rfl⟩
      rw [hs] at hs1 hsf
      rw [hs]
      have Z1 := Lib.hid (CellK.mk (p := ⟨b, off + k * 4 + 1, none⟩) hbl z1)
      rw [hm8] at hx60
      cases hmz : meetsZ x.frm x.to t (t + 1) with
      | true =>
        have ME := Lib.hid hmz
        rw [hmz, if_pos rfl, hm8] at hs1
        have HS := Lib.hid hs1
        clear hx hxx hs hs1 hmz hsum hm8 z0 z1 hkl
        go_wp2
        have zc0 : ∀ p : Later wr, p.now.cell? ⟨b, off + k * 4 + 2, none⟩ = some (.int .i64 x.frm) := fun _ => Later.cell hbl z2
        have zc1 : ∀ p : Later wr, p.now.cell? ⟨b, off + k * 4 + 3, none⟩ = some (.int .i64 x.to) := fun _ => Later.cell hbl z3
        refine wp_region_later (by kernel_rfl) (by kernel_rfl) ?_
        repeat (first | go_big_quiet_skip | (go_big_quiet_want; go_big_quiet_op; first | go_big_quiet_on | (apply Exists.intro; refine ⟨fun pz => ?_, ?_⟩; (first | (go_at_call 20; exact Calls.later_of (meets_any ME.out)) | fail); go_big_quiet_on)))
        refine wpQuiet_nil ?_
        intro _ hw'
        obtain ⟨pz, rfl⟩ := hw'
        obtain ⟨w5, hb⟩ := pz
        try dsimp only
        clear zc0 zc1
        have HBq := Lib.hid (HB.out.trans (hb.mono HB.out.size))
        clear HB
        have HB := HBq
        clear HBq
        have HR1q := Lib.hid (HR1.out.trans (hb.mono HR1.out.size))
        clear HR1
        have HR1 := HR1q
        clear HR1q
        have T0q := Lib.hid (T0.out.next hb)
        clear T0
        have T0 := T0q
        clear T0q
        have HHq := Lib.hid (HH.out.next hb)
        clear HH
        have HH := HHq
        clear HHq
        have BXq := Lib.hid (BX.out.next hb)
        clear BX
        have BX := BXq
        clear BXq
        have Z1q := Lib.hid (Z1.out.next hb)
        clear Z1
        have Z1 := Z1q
        clear Z1q
        clear hb
        clear z2 z3 hbl
        have z1 := Z1.out.at'
        go_wp2
        go_roundw
        case rel => exact ⟨k + 1, by omega, by go_num, (by rw [HS.out]; go_num), HR1.out⟩
        case measure => simp [intOf]; omega
      | false =>
        have ME := Lib.hid hmz
        rw [hmz, if_neg (by simp)] at hs1
        have HS := Lib.hid hs1
        clear hx hxx hs hs1 hmz hsum hm8 z0 z1 hkl
        go_wp2
        have zc0 : ∀ p : Later wr, p.now.cell? ⟨b, off + k * 4 + 2, none⟩ = some (.int .i64 x.frm) := fun _ => Later.cell hbl z2
        have zc1 : ∀ p : Later wr, p.now.cell? ⟨b, off + k * 4 + 3, none⟩ = some (.int .i64 x.to) := fun _ => Later.cell hbl z3
        refine wp_region_later (by kernel_rfl) (by kernel_rfl) ?_
        repeat (first | go_big_quiet_skip | (go_big_quiet_want; go_big_quiet_op; first | go_big_quiet_on | (apply Exists.intro; refine ⟨fun pz => ?_, ?_⟩; (first | (go_at_call 20; exact Calls.later_of (meets_any ME.out)) | fail); go_big_quiet_on)))
        refine wpQuiet_nil ?_
        intro _ hw'
        obtain ⟨pz, rfl⟩ := hw'
        obtain ⟨w5, hb⟩ := pz
        try dsimp only
        clear zc0 zc1
        have HBq := Lib.hid (HB.out.trans (hb.mono HB.out.size))
        clear HB
        have HB := HBq
        clear HBq
        have HR1q := Lib.hid (HR1.out.trans (hb.mono HR1.out.size))
        clear HR1
        have HR1 := HR1q
        clear HR1q
        have T0q := Lib.hid (T0.out.next hb)
        clear T0
        have T0 := T0q
        clear T0q
        have HHq := Lib.hid (HH.out.next hb)
        clear HH
        have HH := HHq
        clear HHq
        have BXq := Lib.hid (BX.out.next hb)
        clear BX
        have BX := BXq
        clear BXq
        have Z1q := Lib.hid (Z1.out.next hb)
        clear Z1
        have Z1 := Z1q
        clear Z1q
        clear hb
        clear z2 z3 hbl
        go_wp2
        go_roundw
        case rel => exact ⟨k + 1, by omega, by go_num, (by rw [HS.out]; simp), HR1.out⟩
        case measure => simp [intOf]; omega
    · have hkn : k = n := by omega
      have hsn : sumN l t k = rt.length := by rw [hkn, ← HL.out]; exact BS.out.symm
      have hrt := FB.out
      rw [hsn]
      clear hsn
      go_wp2_with fail
      refine (h10_busy H T0.out F0.out EBT.out).mono ?_
      rintro e w6 ⟨⟨A41, c41, rfl, hr41, hnil41, hc41⟩, hb⟩
      have HBq := Lib.hid (HB.out.trans (hb.mono HB.out.size))
      clear HB
      have HB := HBq
      clear HBq
      have T0q := Lib.hid (T0.out.next hb)
      clear T0
      have T0 := T0q
      clear T0q
      have HHq := Lib.hid (HH.out.next hb)
      clear HH
      have HH := HHq
      clear HHq
      have BXq := Lib.hid (BX.out.next hb)
      clear BX
      have BX := BXq
      clear BXq
      clear hb
      clear hr41 hnil41 hc41
      have q0 := BX.out.c0
      have q1 := BX.out.c1
      have q2 := BX.out.c2
      have q3 := BX.out.c3
      go_wp2_with fail
      refine (h10_add H T0.out F0.out HH.out hmm ET.out EE.out).mono ?_
      rintro e w7 ⟨⟨A31, c31, rfl, hr31, hn31, hc31⟩, hb⟩
      have HBq := Lib.hid (HB.out.trans (hb.mono HB.out.size))
      clear HB
      have HB := HBq
      clear HBq
      have T0q := Lib.hid (T0.out.next hb)
      clear T0
      have T0 := T0q
      clear T0q
      have HHq := Lib.hid (HH.out.next hb)
      clear HH
      have HH := HHq
      clear HHq
      have BXq := Lib.hid (BX.out.next hb)
      clear BX
      have BX := BXq
      clear BXq
      clear hb
      clear hr31 hn31 hc31
      clear q0 q1 q2 q3
      have q0 := BX.out.c0
      have q1 := BX.out.c1
      have q2 := BX.out.c2
      have q3 := BX.out.c3
      go_wp2_with fail
      refine (h10_get H T0.out F0.out EX.out EG.out).mono ?_
      rintro e w8 ⟨⟨A32, m32, c32, rfl, hh32⟩, hb⟩
      have HBq := Lib.hid (HB.out.trans (hb.mono HB.out.size))
      clear HB
      have HB := HBq
      clear HBq
      have T0q := Lib.hid (T0.out.next hb)
      clear T0
      have T0 := T0q
      clear T0q
      have HHq := Lib.hid (HH.out.next hb)
      clear HH
      have HH := HHq
      clear HHq
      have BXq := Lib.hid (BX.out.next hb)
      clear BX
      have BX := BXq
      clear BXq
      clear hb
      clear hh32
      clear q0 q1 q2 q3
      have hb := Below.alloc (Below.refl w8.heap.size w8) (Nat.le_refl _) (.cells #[.int .i64 x.id, .slice A32 m32 c32, .int .i64 x.frm, .int .i64 x.to] 36)
      have HBq := Lib.hid (HB.out.trans (hb.mono HB.out.size))
      clear HB
      have HB := HBq
      clear HBq
      have T0q := Lib.hid (T0.out.next hb)
      clear T0
      have T0 := T0q
      clear T0q
      have HHq := Lib.hid (HH.out.next hb)
      clear HH
      have HH := HHq
      clear HHq
      have BXq := Lib.hid (BX.out.next hb)
      clear BX
      have BX := BXq
      clear BXq
      clear hb
      have q0 := BX.out.c0
      have q1 := BX.out.c1
      have q2 := BX.out.c2
      have q3 := BX.out.c3
      go_wp2_with fail
      refine (s_isSet HH.out.reads HH.out.few RR.out).mono ?_
      rintro e w9 ⟨rfl, hb⟩
      have HBq := Lib.hid (HB.out.trans (hb.mono HB.out.size))
      clear HB
      have HB := HBq
      clear HBq
      have T0q := Lib.hid (T0.out.next hb)
      clear T0
      have T0 := T0q
      clear T0q
      have HHq := Lib.hid (HH.out.next hb)
      clear HH
      have HH := HHq
      clear HHq
      have BXq := Lib.hid (BX.out.next hb)
      clear BX
      have BX := BXq
      clear BXq
      clear hb
      clear q0 q1 q2 q3
      have q0 := BX.out.c0
      have q1 := BX.out.c1
      have q2 := BX.out.c2
      have q3 := BX.out.c3
      go_wp2
      go_ret
      exact ⟨rfl, HB.out⟩

set_option maxRecDepth 100000 in
set_option maxHeartbeats 8000000 in
theorem heldApart_y2 (H : HeldOk) (A : Option Addr) (n c : Nat) (l : Tb) (t : Int) (A2 : Option Addr) (m c2 : Nat) (h : Hd) (w : World) (hl : TAsk w A n c l) (hh : HAsk w A2 m c2 h) (h0 : shortT l = true) (h60 : ¬ 60 < m) (hr : rightT l = true) (ht : timeB t = true) (ht2 : t < 4611686018427387904) (hy0 : 0 < m) (hy1 : rightB h.things = true) (hy2 : timeB h.frm = false) :
    Calls Try.prog 4 #[.slice A n c, .int .i64 t, .agg #[.int .i64 h.id, .slice A2 m c2, .int .i64 h.frm, .int .i64 h.to]] w fun e w' => e = .returned (.bool true) ∧ Below w.heap.size w w' := by
  obtain ⟨W, hW⟩ : ∃ W, W = w.alloc (hO h A2 m c2) := ⟨_, rfl⟩
  have BX : Hid (BoxH W w.heap.size h A2 m c2) := Lib.hid (by rw [hW]; exact boxH_new w h A2 m c2)
  have hb0 : Below w.heap.size w W := by rw [hW]; exact (Below.refl _ _).alloc (Nat.le_refl _) _
  have HB := Lib.hid hb0
  have T0 := Lib.hid (hl.next hb0)
  have HH := Lib.hid (hh.next hb0)
  have hm2 := hh.few
  unfold maxLen at hm2
  unfold hO at hW
  have HSB := Lib.hid (short_is h0)
  have HL := Lib.hid hl.reads.len
  have hn30 : n ≤ 30 := by rw [← HL.out]; exact HSB.out.1
  have E0 := Lib.hid h0
  have F0 := Lib.hid (short_few' h0)
  have h60d : decide ((60 : Int) < (m : Int)) = false := by simp; omega
  have hmm : m ≤ 100 := by omega
  have HML := Lib.hid hh.reads.1
  have TQ := Lib.hid ht
  have dt : decide (t < 4611686018427387904) = true := decide_eq_true ht2
  have htp : 0 ≤ t := by unfold timeB at ht; exact (of_decide_eq_true ht).1
  have BS0 := busy_sum hr t
  have FB0 := busy_len l t (t + 1)
  obtain ⟨rt, ert⟩ : ∃ r, busyT l t (t + 1) = r := ⟨_, rfl⟩
  rw [ert] at BS0 FB0
  have BS := Lib.hid BS0
  have FB := Lib.hid FB0
  have EBT := Lib.hid ert
  clear ht BS0 FB0 ert
  have hmt := may_times h
  rw [hh.reads.1] at hmt
  have d0 : decide ((0 : Int) < (m : Int)) = true := by simp; omega
  have d0' : decide (0 < m) = true := by simp; omega
  rw [d0'] at hmt
  rw [hy1] at hmt
  have RR := Lib.hid hy1
  rw [hy2] at hmt
  have TF := Lib.hid hy2
  have hE : addE l h = 1 := addE_bad hmt
  obtain ⟨gt, eg⟩ : ∃ b, gotT l h.id = b := ⟨_, rfl⟩
  have EG := Lib.hid eg
  obtain ⟨lt, et⟩ : ∃ r, addT l h = r := ⟨_, rfl⟩
  obtain ⟨x, ex⟩ : ∃ r, getT l h.id = r := ⟨_, rfl⟩
  have ET := Lib.hid et
  have EX := Lib.hid ex
  have EE := Lib.hid hE
  have RT0 := Lib.hid hr
  clear hb0 hl hh h0 h60 hr hmt et ex hE eg hy0 hy1 hy2
  go_enter Try.func4, Try.ntmps4
  go_wp2_with fail
  rw [← hW]
  refine (awake10_any H _).mono ?_
  rintro e w1 ⟨rfl, hb⟩
  have HBq := Lib.hid (HB.out.trans (hb.mono HB.out.size))
  clear HB
  have HB := HBq
  clear HBq
  have T0q := Lib.hid (T0.out.next hb)
  clear T0
  have T0 := T0q
  clear T0q
  have HHq := Lib.hid (HH.out.next hb)
  clear HH
  have HH := HHq
  clear HHq
  have BXq := Lib.hid (BX.out.next hb)
  clear BX
  have BX := BXq
  clear BXq
  clear hb
  clear hW
  go_wp2_with fail
  refine (short_b T0.out E0.out).mono ?_
  rintro e w2 ⟨rfl, hb⟩
  have HBq := Lib.hid (HB.out.trans (hb.mono HB.out.size))
  clear HB
  have HB := HBq
  clear HBq
  have T0q := Lib.hid (T0.out.next hb)
  clear T0
  have T0 := T0q
  clear T0q
  have HHq := Lib.hid (HH.out.next hb)
  clear HH
  have HH := HHq
  clear HHq
  have BXq := Lib.hid (BX.out.next hb)
  clear BX
  have BX := BXq
  clear BXq
  clear hb
  have q0 := BX.out.c0
  have q1 := BX.out.c1
  have q2 := BX.out.c2
  have q3 := BX.out.c3
  go_wp2_with fail
  refine (h10_right H T0.out F0.out RT0.out).mono ?_
  rintro e w3 ⟨rfl, hb⟩
  have HBq := Lib.hid (HB.out.trans (hb.mono HB.out.size))
  clear HB
  have HB := HBq
  clear HBq
  have T0q := Lib.hid (T0.out.next hb)
  clear T0
  have T0 := T0q
  clear T0q
  have HHq := Lib.hid (HH.out.next hb)
  clear HH
  have HH := HHq
  clear HHq
  have BXq := Lib.hid (BX.out.next hb)
  clear BX
  have BX := BXq
  clear BXq
  clear hb
  clear q0 q1 q2 q3
  go_wp2_with fail
  refine (time_b TQ.out).mono ?_
  rintro e w4 ⟨rfl, hb⟩
  have HBq := Lib.hid (HB.out.trans (hb.mono HB.out.size))
  clear HB
  have HB := HBq
  clear HBq
  have T0q := Lib.hid (T0.out.next hb)
  clear T0
  have T0 := T0q
  clear T0q
  have HHq := Lib.hid (HH.out.next hb)
  clear HH
  have HH := HHq
  clear HHq
  have BXq := Lib.hid (BX.out.next hb)
  clear BX
  have BX := BXq
  clear BXq
  clear hb
  go_wp2
  go_loopw [7, 8] (fun sv kv wr => ∃ k : Nat, k ≤ n ∧ kv = .int .i64 k ∧ sv = .int .i64 (sumN l t k) ∧ Below w4.heap.size w4 wr) (fun _ kv _ => n - (intOf kv).toNat)
  case atStart => exact ⟨0, Nat.zero_le _, rfl, by simp [sumN], Below.refl _ _⟩
  case round =>
    obtain ⟨k, hk, rfl, rfl, hb⟩ := hrel
    have HR0 := Lib.hid hb
    have HBq := Lib.hid (HB.out.trans (hb.mono HB.out.size))
    clear HB
    have HB := HBq
    clear HBq
    have T0q := Lib.hid (T0.out.next hb)
    clear T0
    have T0 := T0q
    clear T0q
    have HHq := Lib.hid (HH.out.next hb)
    clear HH
    have HH := HHq
    clear HHq
    have BXq := Lib.hid (BX.out.next hb)
    clear BX
    have BX := BXq
    clear BXq
    clear hb
    have HR1 := Lib.hid HR0.out
    clear HR0
    by_cases hlt : k < n
    · have hkl : k < l.length := by rw [HL.out]; exact hlt
      have hsf := sumN_few HSB.out t (k := k) (by omega)
      have hx60 := HSB.out.2 _ (getD_in hkl)
      have hsum := fun x (hx : l.getD k hd0 = x) => sumN_at t hkl hx
      obtain ⟨b, off, A8, m8, c8, rfl, hbl, z0, z1, z2, z3, hx⟩ := RT.one T0.out.reads hlt
      have hm8 := hx.reads.1
      obtain ⟨x, hxx⟩ : ∃ x, l.getD k hd0 = x := ⟨_, rfl⟩
      have hs1 := hsum x hxx
      rw [hxx] at z0 z2 z3 hx60 hm8
      obtain ⟨s, hs⟩ : ∃ s, sumN l t k = s := ⟨_, rfl⟩
      rw [hs] at hs1 hsf
      rw [hs]
      have Z1 := Lib.hid (CellK.mk (p := ⟨b, off + k * 4 + 1, none⟩) hbl z1)
      rw [hm8] at hx60
      cases hmz : meetsZ x.frm x.to t (t + 1) with
      | true =>
        have ME := Lib.hid hmz
        rw [hmz, if_pos rfl, hm8] at hs1
        have HS := Lib.hid hs1
        clear hx hxx hs hs1 hmz hsum hm8 z0 z1 hkl
        go_wp2
        have zc0 : ∀ p : Later wr, p.now.cell? ⟨b, off + k * 4 + 2, none⟩ = some (.int .i64 x.frm) := fun _ => Later.cell hbl z2
        have zc1 : ∀ p : Later wr, p.now.cell? ⟨b, off + k * 4 + 3, none⟩ = some (.int .i64 x.to) := fun _ => Later.cell hbl z3
        refine wp_region_later (by kernel_rfl) (by kernel_rfl) ?_
        repeat (first | go_big_quiet_skip | (go_big_quiet_want; go_big_quiet_op; first | go_big_quiet_on | (apply Exists.intro; refine ⟨fun pz => ?_, ?_⟩; (first | (go_at_call 20; exact Calls.later_of (meets_any ME.out)) | fail); go_big_quiet_on)))
        refine wpQuiet_nil ?_
        intro _ hw'
        obtain ⟨pz, rfl⟩ := hw'
        obtain ⟨w5, hb⟩ := pz
        try dsimp only
        clear zc0 zc1
        have HBq := Lib.hid (HB.out.trans (hb.mono HB.out.size))
        clear HB
        have HB := HBq
        clear HBq
        have HR1q := Lib.hid (HR1.out.trans (hb.mono HR1.out.size))
        clear HR1
        have HR1 := HR1q
        clear HR1q
        have T0q := Lib.hid (T0.out.next hb)
        clear T0
        have T0 := T0q
        clear T0q
        have HHq := Lib.hid (HH.out.next hb)
        clear HH
        have HH := HHq
        clear HHq
        have BXq := Lib.hid (BX.out.next hb)
        clear BX
        have BX := BXq
        clear BXq
        have Z1q := Lib.hid (Z1.out.next hb)
        clear Z1
        have Z1 := Z1q
        clear Z1q
        clear hb
        clear z2 z3 hbl
        have z1 := Z1.out.at'
        go_wp2
        go_roundw
        case rel => exact ⟨k + 1, by omega, by go_num, (by rw [HS.out]; go_num), HR1.out⟩
        case measure => simp [intOf]; omega
      | false =>
        have ME := Lib.hid hmz
        rw [hmz, if_neg (by simp)] at hs1
        have HS := Lib.hid hs1
        clear hx hxx hs hs1 hmz hsum hm8 z0 z1 hkl
        go_wp2
        have zc0 : ∀ p : Later wr, p.now.cell? ⟨b, off + k * 4 + 2, none⟩ = some (.int .i64 x.frm) := fun _ => Later.cell hbl z2
        have zc1 : ∀ p : Later wr, p.now.cell? ⟨b, off + k * 4 + 3, none⟩ = some (.int .i64 x.to) := fun _ => Later.cell hbl z3
        refine wp_region_later (by kernel_rfl) (by kernel_rfl) ?_
        repeat (first | go_big_quiet_skip | (go_big_quiet_want; go_big_quiet_op; first | go_big_quiet_on | (apply Exists.intro; refine ⟨fun pz => ?_, ?_⟩; (first | (go_at_call 20; exact Calls.later_of (meets_any ME.out)) | fail); go_big_quiet_on)))
        refine wpQuiet_nil ?_
        intro _ hw'
        obtain ⟨pz, rfl⟩ := hw'
        obtain ⟨w5, hb⟩ := pz
        try dsimp only
        clear zc0 zc1
        have HBq := Lib.hid (HB.out.trans (hb.mono HB.out.size))
        clear HB
        have HB := HBq
        clear HBq
        have HR1q := Lib.hid (HR1.out.trans (hb.mono HR1.out.size))
        clear HR1
        have HR1 := HR1q
        clear HR1q
        have T0q := Lib.hid (T0.out.next hb)
        clear T0
        have T0 := T0q
        clear T0q
        have HHq := Lib.hid (HH.out.next hb)
        clear HH
        have HH := HHq
        clear HHq
        have BXq := Lib.hid (BX.out.next hb)
        clear BX
        have BX := BXq
        clear BXq
        have Z1q := Lib.hid (Z1.out.next hb)
        clear Z1
        have Z1 := Z1q
        clear Z1q
        clear hb
        clear z2 z3 hbl
        go_wp2
        go_roundw
        case rel => exact ⟨k + 1, by omega, by go_num, (by rw [HS.out]; simp), HR1.out⟩
        case measure => simp [intOf]; omega
    · have hkn : k = n := by omega
      have hsn : sumN l t k = rt.length := by rw [hkn, ← HL.out]; exact BS.out.symm
      have hrt := FB.out
      rw [hsn]
      clear hsn
      go_wp2_with fail
      refine (h10_busy H T0.out F0.out EBT.out).mono ?_
      rintro e w6 ⟨⟨A41, c41, rfl, hr41, hnil41, hc41⟩, hb⟩
      have HBq := Lib.hid (HB.out.trans (hb.mono HB.out.size))
      clear HB
      have HB := HBq
      clear HBq
      have T0q := Lib.hid (T0.out.next hb)
      clear T0
      have T0 := T0q
      clear T0q
      have HHq := Lib.hid (HH.out.next hb)
      clear HH
      have HH := HHq
      clear HHq
      have BXq := Lib.hid (BX.out.next hb)
      clear BX
      have BX := BXq
      clear BXq
      clear hb
      clear hr41 hnil41 hc41
      have q0 := BX.out.c0
      have q1 := BX.out.c1
      have q2 := BX.out.c2
      have q3 := BX.out.c3
      go_wp2_with fail
      refine (h10_add H T0.out F0.out HH.out hmm ET.out EE.out).mono ?_
      rintro e w7 ⟨⟨A31, c31, rfl, hr31, hn31, hc31⟩, hb⟩
      have HBq := Lib.hid (HB.out.trans (hb.mono HB.out.size))
      clear HB
      have HB := HBq
      clear HBq
      have T0q := Lib.hid (T0.out.next hb)
      clear T0
      have T0 := T0q
      clear T0q
      have HHq := Lib.hid (HH.out.next hb)
      clear HH
      have HH := HHq
      clear HHq
      have BXq := Lib.hid (BX.out.next hb)
      clear BX
      have BX := BXq
      clear BXq
      clear hb
      clear hr31 hn31 hc31
      clear q0 q1 q2 q3
      have q0 := BX.out.c0
      have q1 := BX.out.c1
      have q2 := BX.out.c2
      have q3 := BX.out.c3
      go_wp2_with fail
      refine (h10_get H T0.out F0.out EX.out EG.out).mono ?_
      rintro e w8 ⟨⟨A32, m32, c32, rfl, hh32⟩, hb⟩
      have HBq := Lib.hid (HB.out.trans (hb.mono HB.out.size))
      clear HB
      have HB := HBq
      clear HBq
      have T0q := Lib.hid (T0.out.next hb)
      clear T0
      have T0 := T0q
      clear T0q
      have HHq := Lib.hid (HH.out.next hb)
      clear HH
      have HH := HHq
      clear HHq
      have BXq := Lib.hid (BX.out.next hb)
      clear BX
      have BX := BXq
      clear BXq
      clear hb
      clear hh32
      clear q0 q1 q2 q3
      have hb := Below.alloc (Below.refl w8.heap.size w8) (Nat.le_refl _) (.cells #[.int .i64 x.id, .slice A32 m32 c32, .int .i64 x.frm, .int .i64 x.to] 36)
      have HBq := Lib.hid (HB.out.trans (hb.mono HB.out.size))
      clear HB
      have HB := HBq
      clear HBq
      have T0q := Lib.hid (T0.out.next hb)
      clear T0
      have T0 := T0q
      clear T0q
      have HHq := Lib.hid (HH.out.next hb)
      clear HH
      have HH := HHq
      clear HHq
      have BXq := Lib.hid (BX.out.next hb)
      clear BX
      have BX := BXq
      clear BXq
      clear hb
      have q0 := BX.out.c0
      have q1 := BX.out.c1
      have q2 := BX.out.c2
      have q3 := BX.out.c3
      go_wp2_with fail
      refine (s_isSet HH.out.reads HH.out.few RR.out).mono ?_
      rintro e w9 ⟨rfl, hb⟩
      have HBq := Lib.hid (HB.out.trans (hb.mono HB.out.size))
      clear HB
      have HB := HBq
      clear HBq
      have T0q := Lib.hid (T0.out.next hb)
      clear T0
      have T0 := T0q
      clear T0q
      have HHq := Lib.hid (HH.out.next hb)
      clear HH
      have HH := HHq
      clear HHq
      have BXq := Lib.hid (BX.out.next hb)
      clear BX
      have BX := BXq
      clear BXq
      clear hb
      clear q0 q1 q2 q3
      have q0 := BX.out.c0
      have q1 := BX.out.c1
      have q2 := BX.out.c2
      have q3 := BX.out.c3
      go_wp2_with fail
      refine (time_b TF.out).mono ?_
      rintro e w10 ⟨rfl, hb⟩
      have HBq := Lib.hid (HB.out.trans (hb.mono HB.out.size))
      clear HB
      have HB := HBq
      clear HBq
      have T0q := Lib.hid (T0.out.next hb)
      clear T0
      have T0 := T0q
      clear T0q
      have HHq := Lib.hid (HH.out.next hb)
      clear HH
      have HH := HHq
      clear HHq
      have BXq := Lib.hid (BX.out.next hb)
      clear BX
      have BX := BXq
      clear BXq
      clear hb
      clear q0 q1 q2 q3
      have q0 := BX.out.c0
      have q1 := BX.out.c1
      have q2 := BX.out.c2
      have q3 := BX.out.c3
      go_wp2
      go_ret
      exact ⟨rfl, HB.out⟩

set_option maxRecDepth 100000 in
set_option maxHeartbeats 8000000 in
theorem heldApart_y3 (H : HeldOk) (A : Option Addr) (n c : Nat) (l : Tb) (t : Int) (A2 : Option Addr) (m c2 : Nat) (h : Hd) (w : World) (hl : TAsk w A n c l) (hh : HAsk w A2 m c2 h) (h0 : shortT l = true) (h60 : ¬ 60 < m) (hr : rightT l = true) (ht : timeB t = true) (ht2 : t < 4611686018427387904) (hy0 : 0 < m) (hy1 : rightB h.things = true) (hy2 : timeB h.frm = true) (hy3 : timeB h.to = false) :
    Calls Try.prog 4 #[.slice A n c, .int .i64 t, .agg #[.int .i64 h.id, .slice A2 m c2, .int .i64 h.frm, .int .i64 h.to]] w fun e w' => e = .returned (.bool true) ∧ Below w.heap.size w w' := by
  obtain ⟨W, hW⟩ : ∃ W, W = w.alloc (hO h A2 m c2) := ⟨_, rfl⟩
  have BX : Hid (BoxH W w.heap.size h A2 m c2) := Lib.hid (by rw [hW]; exact boxH_new w h A2 m c2)
  have hb0 : Below w.heap.size w W := by rw [hW]; exact (Below.refl _ _).alloc (Nat.le_refl _) _
  have HB := Lib.hid hb0
  have T0 := Lib.hid (hl.next hb0)
  have HH := Lib.hid (hh.next hb0)
  have hm2 := hh.few
  unfold maxLen at hm2
  unfold hO at hW
  have HSB := Lib.hid (short_is h0)
  have HL := Lib.hid hl.reads.len
  have hn30 : n ≤ 30 := by rw [← HL.out]; exact HSB.out.1
  have E0 := Lib.hid h0
  have F0 := Lib.hid (short_few' h0)
  have h60d : decide ((60 : Int) < (m : Int)) = false := by simp; omega
  have hmm : m ≤ 100 := by omega
  have HML := Lib.hid hh.reads.1
  have TQ := Lib.hid ht
  have dt : decide (t < 4611686018427387904) = true := decide_eq_true ht2
  have htp : 0 ≤ t := by unfold timeB at ht; exact (of_decide_eq_true ht).1
  have BS0 := busy_sum hr t
  have FB0 := busy_len l t (t + 1)
  obtain ⟨rt, ert⟩ : ∃ r, busyT l t (t + 1) = r := ⟨_, rfl⟩
  rw [ert] at BS0 FB0
  have BS := Lib.hid BS0
  have FB := Lib.hid FB0
  have EBT := Lib.hid ert
  clear ht BS0 FB0 ert
  have hmt := may_times h
  rw [hh.reads.1] at hmt
  have d0 : decide ((0 : Int) < (m : Int)) = true := by simp; omega
  have d0' : decide (0 < m) = true := by simp; omega
  rw [d0'] at hmt
  rw [hy1] at hmt
  have RR := Lib.hid hy1
  rw [hy2] at hmt
  have TF := Lib.hid hy2
  rw [hy3] at hmt
  have TO := Lib.hid hy3
  have hE : addE l h = 1 := addE_bad hmt
  obtain ⟨gt, eg⟩ : ∃ b, gotT l h.id = b := ⟨_, rfl⟩
  have EG := Lib.hid eg
  obtain ⟨lt, et⟩ : ∃ r, addT l h = r := ⟨_, rfl⟩
  obtain ⟨x, ex⟩ : ∃ r, getT l h.id = r := ⟨_, rfl⟩
  have ET := Lib.hid et
  have EX := Lib.hid ex
  have EE := Lib.hid hE
  have RT0 := Lib.hid hr
  clear hb0 hl hh h0 h60 hr hmt et ex hE eg hy0 hy1 hy2 hy3
  go_enter Try.func4, Try.ntmps4
  go_wp2_with fail
  rw [← hW]
  refine (awake10_any H _).mono ?_
  rintro e w1 ⟨rfl, hb⟩
  have HBq := Lib.hid (HB.out.trans (hb.mono HB.out.size))
  clear HB
  have HB := HBq
  clear HBq
  have T0q := Lib.hid (T0.out.next hb)
  clear T0
  have T0 := T0q
  clear T0q
  have HHq := Lib.hid (HH.out.next hb)
  clear HH
  have HH := HHq
  clear HHq
  have BXq := Lib.hid (BX.out.next hb)
  clear BX
  have BX := BXq
  clear BXq
  clear hb
  clear hW
  go_wp2_with fail
  refine (short_b T0.out E0.out).mono ?_
  rintro e w2 ⟨rfl, hb⟩
  have HBq := Lib.hid (HB.out.trans (hb.mono HB.out.size))
  clear HB
  have HB := HBq
  clear HBq
  have T0q := Lib.hid (T0.out.next hb)
  clear T0
  have T0 := T0q
  clear T0q
  have HHq := Lib.hid (HH.out.next hb)
  clear HH
  have HH := HHq
  clear HHq
  have BXq := Lib.hid (BX.out.next hb)
  clear BX
  have BX := BXq
  clear BXq
  clear hb
  have q0 := BX.out.c0
  have q1 := BX.out.c1
  have q2 := BX.out.c2
  have q3 := BX.out.c3
  go_wp2_with fail
  refine (h10_right H T0.out F0.out RT0.out).mono ?_
  rintro e w3 ⟨rfl, hb⟩
  have HBq := Lib.hid (HB.out.trans (hb.mono HB.out.size))
  clear HB
  have HB := HBq
  clear HBq
  have T0q := Lib.hid (T0.out.next hb)
  clear T0
  have T0 := T0q
  clear T0q
  have HHq := Lib.hid (HH.out.next hb)
  clear HH
  have HH := HHq
  clear HHq
  have BXq := Lib.hid (BX.out.next hb)
  clear BX
  have BX := BXq
  clear BXq
  clear hb
  clear q0 q1 q2 q3
  go_wp2_with fail
  refine (time_b TQ.out).mono ?_
  rintro e w4 ⟨rfl, hb⟩
  have HBq := Lib.hid (HB.out.trans (hb.mono HB.out.size))
  clear HB
  have HB := HBq
  clear HBq
  have T0q := Lib.hid (T0.out.next hb)
  clear T0
  have T0 := T0q
  clear T0q
  have HHq := Lib.hid (HH.out.next hb)
  clear HH
  have HH := HHq
  clear HHq
  have BXq := Lib.hid (BX.out.next hb)
  clear BX
  have BX := BXq
  clear BXq
  clear hb
  go_wp2
  go_loopw [7, 8] (fun sv kv wr => ∃ k : Nat, k ≤ n ∧ kv = .int .i64 k ∧ sv = .int .i64 (sumN l t k) ∧ Below w4.heap.size w4 wr) (fun _ kv _ => n - (intOf kv).toNat)
  case atStart => exact ⟨0, Nat.zero_le _, rfl, by simp [sumN], Below.refl _ _⟩
  case round =>
    obtain ⟨k, hk, rfl, rfl, hb⟩ := hrel
    have HR0 := Lib.hid hb
    have HBq := Lib.hid (HB.out.trans (hb.mono HB.out.size))
    clear HB
    have HB := HBq
    clear HBq
    have T0q := Lib.hid (T0.out.next hb)
    clear T0
    have T0 := T0q
    clear T0q
    have HHq := Lib.hid (HH.out.next hb)
    clear HH
    have HH := HHq
    clear HHq
    have BXq := Lib.hid (BX.out.next hb)
    clear BX
    have BX := BXq
    clear BXq
    clear hb
    have HR1 := Lib.hid HR0.out
    clear HR0
    by_cases hlt : k < n
    · have hkl : k < l.length := by rw [HL.out]; exact hlt
      have hsf := sumN_few HSB.out t (k := k) (by omega)
      have hx60 := HSB.out.2 _ (getD_in hkl)
      have hsum := fun x (hx : l.getD k hd0 = x) => sumN_at t hkl hx
      obtain ⟨b, off, A8, m8, c8, rfl, hbl, z0, z1, z2, z3, hx⟩ := RT.one T0.out.reads hlt
      have hm8 := hx.reads.1
      obtain ⟨x, hxx⟩ : ∃ x, l.getD k hd0 = x := ⟨_, rfl⟩
      have hs1 := hsum x hxx
      rw [hxx] at z0 z2 z3 hx60 hm8
      obtain ⟨s, hs⟩ : ∃ s, sumN l t k = s := ⟨_, rfl⟩
      rw [hs] at hs1 hsf
      rw [hs]
      have Z1 := Lib.hid (CellK.mk (p := ⟨b, off + k * 4 + 1, none⟩) hbl z1)
      rw [hm8] at hx60
      cases hmz : meetsZ x.frm x.to t (t + 1) with
      | true =>
        have ME := Lib.hid hmz
        rw [hmz, if_pos rfl, hm8] at hs1
        have HS := Lib.hid hs1
        clear hx hxx hs hs1 hmz hsum hm8 z0 z1 hkl
        go_wp2
        have zc0 : ∀ p : Later wr, p.now.cell? ⟨b, off + k * 4 + 2, none⟩ = some (.int .i64 x.frm) := fun _ => Later.cell hbl z2
        have zc1 : ∀ p : Later wr, p.now.cell? ⟨b, off + k * 4 + 3, none⟩ = some (.int .i64 x.to) := fun _ => Later.cell hbl z3
        refine wp_region_later (by kernel_rfl) (by kernel_rfl) ?_
        repeat (first | go_big_quiet_skip | (go_big_quiet_want; go_big_quiet_op; first | go_big_quiet_on | (apply Exists.intro; refine ⟨fun pz => ?_, ?_⟩; (first | (go_at_call 20; exact Calls.later_of (meets_any ME.out)) | fail); go_big_quiet_on)))
        refine wpQuiet_nil ?_
        intro _ hw'
        obtain ⟨pz, rfl⟩ := hw'
        obtain ⟨w5, hb⟩ := pz
        try dsimp only
        clear zc0 zc1
        have HBq := Lib.hid (HB.out.trans (hb.mono HB.out.size))
        clear HB
        have HB := HBq
        clear HBq
        have HR1q := Lib.hid (HR1.out.trans (hb.mono HR1.out.size))
        clear HR1
        have HR1 := HR1q
        clear HR1q
        have T0q := Lib.hid (T0.out.next hb)
        clear T0
        have T0 := T0q
        clear T0q
        have HHq := Lib.hid (HH.out.next hb)
        clear HH
        have HH := HHq
        clear HHq
        have BXq := Lib.hid (BX.out.next hb)
        clear BX
        have BX := BXq
        clear BXq
        have Z1q := Lib.hid (Z1.out.next hb)
        clear Z1
        have Z1 := Z1q
        clear Z1q
        clear hb
        clear z2 z3 hbl
        have z1 := Z1.out.at'
        go_wp2
        go_roundw
        case rel => exact ⟨k + 1, by omega, by go_num, (by rw [HS.out]; go_num), HR1.out⟩
        case measure => simp [intOf]; omega
      | false =>
        have ME := Lib.hid hmz
        rw [hmz, if_neg (by simp)] at hs1
        have HS := Lib.hid hs1
        clear hx hxx hs hs1 hmz hsum hm8 z0 z1 hkl
        go_wp2
        have zc0 : ∀ p : Later wr, p.now.cell? ⟨b, off + k * 4 + 2, none⟩ = some (.int .i64 x.frm) := fun _ => Later.cell hbl z2
        have zc1 : ∀ p : Later wr, p.now.cell? ⟨b, off + k * 4 + 3, none⟩ = some (.int .i64 x.to) := fun _ => Later.cell hbl z3
        refine wp_region_later (by kernel_rfl) (by kernel_rfl) ?_
        repeat (first | go_big_quiet_skip | (go_big_quiet_want; go_big_quiet_op; first | go_big_quiet_on | (apply Exists.intro; refine ⟨fun pz => ?_, ?_⟩; (first | (go_at_call 20; exact Calls.later_of (meets_any ME.out)) | fail); go_big_quiet_on)))
        refine wpQuiet_nil ?_
        intro _ hw'
        obtain ⟨pz, rfl⟩ := hw'
        obtain ⟨w5, hb⟩ := pz
        try dsimp only
        clear zc0 zc1
        have HBq := Lib.hid (HB.out.trans (hb.mono HB.out.size))
        clear HB
        have HB := HBq
        clear HBq
        have HR1q := Lib.hid (HR1.out.trans (hb.mono HR1.out.size))
        clear HR1
        have HR1 := HR1q
        clear HR1q
        have T0q := Lib.hid (T0.out.next hb)
        clear T0
        have T0 := T0q
        clear T0q
        have HHq := Lib.hid (HH.out.next hb)
        clear HH
        have HH := HHq
        clear HHq
        have BXq := Lib.hid (BX.out.next hb)
        clear BX
        have BX := BXq
        clear BXq
        have Z1q := Lib.hid (Z1.out.next hb)
        clear Z1
        have Z1 := Z1q
        clear Z1q
        clear hb
        clear z2 z3 hbl
        go_wp2
        go_roundw
        case rel => exact ⟨k + 1, by omega, by go_num, (by rw [HS.out]; simp), HR1.out⟩
        case measure => simp [intOf]; omega
    · have hkn : k = n := by omega
      have hsn : sumN l t k = rt.length := by rw [hkn, ← HL.out]; exact BS.out.symm
      have hrt := FB.out
      rw [hsn]
      clear hsn
      go_wp2_with fail
      refine (h10_busy H T0.out F0.out EBT.out).mono ?_
      rintro e w6 ⟨⟨A41, c41, rfl, hr41, hnil41, hc41⟩, hb⟩
      have HBq := Lib.hid (HB.out.trans (hb.mono HB.out.size))
      clear HB
      have HB := HBq
      clear HBq
      have T0q := Lib.hid (T0.out.next hb)
      clear T0
      have T0 := T0q
      clear T0q
      have HHq := Lib.hid (HH.out.next hb)
      clear HH
      have HH := HHq
      clear HHq
      have BXq := Lib.hid (BX.out.next hb)
      clear BX
      have BX := BXq
      clear BXq
      clear hb
      clear hr41 hnil41 hc41
      have q0 := BX.out.c0
      have q1 := BX.out.c1
      have q2 := BX.out.c2
      have q3 := BX.out.c3
      go_wp2_with fail
      refine (h10_add H T0.out F0.out HH.out hmm ET.out EE.out).mono ?_
      rintro e w7 ⟨⟨A31, c31, rfl, hr31, hn31, hc31⟩, hb⟩
      have HBq := Lib.hid (HB.out.trans (hb.mono HB.out.size))
      clear HB
      have HB := HBq
      clear HBq
      have T0q := Lib.hid (T0.out.next hb)
      clear T0
      have T0 := T0q
      clear T0q
      have HHq := Lib.hid (HH.out.next hb)
      clear HH
      have HH := HHq
      clear HHq
      have BXq := Lib.hid (BX.out.next hb)
      clear BX
      have BX := BXq
      clear BXq
      clear hb
      clear hr31 hn31 hc31
      clear q0 q1 q2 q3
      have q0 := BX.out.c0
      have q1 := BX.out.c1
      have q2 := BX.out.c2
      have q3 := BX.out.c3
      go_wp2_with fail
      refine (h10_get H T0.out F0.out EX.out EG.out).mono ?_
      rintro e w8 ⟨⟨A32, m32, c32, rfl, hh32⟩, hb⟩
      have HBq := Lib.hid (HB.out.trans (hb.mono HB.out.size))
      clear HB
      have HB := HBq
      clear HBq
      have T0q := Lib.hid (T0.out.next hb)
      clear T0
      have T0 := T0q
      clear T0q
      have HHq := Lib.hid (HH.out.next hb)
      clear HH
      have HH := HHq
      clear HHq
      have BXq := Lib.hid (BX.out.next hb)
      clear BX
      have BX := BXq
      clear BXq
      clear hb
      clear hh32
      clear q0 q1 q2 q3
      have hb := Below.alloc (Below.refl w8.heap.size w8) (Nat.le_refl _) (.cells #[.int .i64 x.id, .slice A32 m32 c32, .int .i64 x.frm, .int .i64 x.to] 36)
      have HBq := Lib.hid (HB.out.trans (hb.mono HB.out.size))
      clear HB
      have HB := HBq
      clear HBq
      have T0q := Lib.hid (T0.out.next hb)
      clear T0
      have T0 := T0q
      clear T0q
      have HHq := Lib.hid (HH.out.next hb)
      clear HH
      have HH := HHq
      clear HHq
      have BXq := Lib.hid (BX.out.next hb)
      clear BX
      have BX := BXq
      clear BXq
      clear hb
      have q0 := BX.out.c0
      have q1 := BX.out.c1
      have q2 := BX.out.c2
      have q3 := BX.out.c3
      go_wp2_with fail
      refine (s_isSet HH.out.reads HH.out.few RR.out).mono ?_
      rintro e w9 ⟨rfl, hb⟩
      have HBq := Lib.hid (HB.out.trans (hb.mono HB.out.size))
      clear HB
      have HB := HBq
      clear HBq
      have T0q := Lib.hid (T0.out.next hb)
      clear T0
      have T0 := T0q
      clear T0q
      have HHq := Lib.hid (HH.out.next hb)
      clear HH
      have HH := HHq
      clear HHq
      have BXq := Lib.hid (BX.out.next hb)
      clear BX
      have BX := BXq
      clear BXq
      clear hb
      clear q0 q1 q2 q3
      have q0 := BX.out.c0
      have q1 := BX.out.c1
      have q2 := BX.out.c2
      have q3 := BX.out.c3
      go_wp2_with fail
      refine (time_b TF.out).mono ?_
      rintro e w10 ⟨rfl, hb⟩
      have HBq := Lib.hid (HB.out.trans (hb.mono HB.out.size))
      clear HB
      have HB := HBq
      clear HBq
      have T0q := Lib.hid (T0.out.next hb)
      clear T0
      have T0 := T0q
      clear T0q
      have HHq := Lib.hid (HH.out.next hb)
      clear HH
      have HH := HHq
      clear HHq
      have BXq := Lib.hid (BX.out.next hb)
      clear BX
      have BX := BXq
      clear BXq
      clear hb
      clear q0 q1 q2 q3
      have q0 := BX.out.c0
      have q1 := BX.out.c1
      have q2 := BX.out.c2
      have q3 := BX.out.c3
      go_wp2_with fail
      refine (time_b TO.out).mono ?_
      rintro e w11 ⟨rfl, hb⟩
      have HBq := Lib.hid (HB.out.trans (hb.mono HB.out.size))
      clear HB
      have HB := HBq
      clear HBq
      have T0q := Lib.hid (T0.out.next hb)
      clear T0
      have T0 := T0q
      clear T0q
      have HHq := Lib.hid (HH.out.next hb)
      clear HH
      have HH := HHq
      clear HHq
      have BXq := Lib.hid (BX.out.next hb)
      clear BX
      have BX := BXq
      clear BXq
      clear hb
      clear q0 q1 q2 q3
      have q0 := BX.out.c0
      have q1 := BX.out.c1
      have q2 := BX.out.c2
      have q3 := BX.out.c3
      go_wp2
      go_ret
      exact ⟨rfl, HB.out⟩

set_option maxRecDepth 100000 in
set_option maxHeartbeats 8000000 in
theorem heldApart_y4 (H : HeldOk) (A : Option Addr) (n c : Nat) (l : Tb) (t : Int) (A2 : Option Addr) (m c2 : Nat) (h : Hd) (w : World) (hl : TAsk w A n c l) (hh : HAsk w A2 m c2 h) (h0 : shortT l = true) (h60 : ¬ 60 < m) (hr : rightT l = true) (ht : timeB t = true) (ht2 : t < 4611686018427387904) (hy0 : 0 < m) (hy1 : rightB h.things = true) (hy2 : timeB h.frm = true) (hy3 : timeB h.to = true) (hy4 : ¬ h.frm < h.to) :
    Calls Try.prog 4 #[.slice A n c, .int .i64 t, .agg #[.int .i64 h.id, .slice A2 m c2, .int .i64 h.frm, .int .i64 h.to]] w fun e w' => e = .returned (.bool true) ∧ Below w.heap.size w w' := by
  obtain ⟨W, hW⟩ : ∃ W, W = w.alloc (hO h A2 m c2) := ⟨_, rfl⟩
  have BX : Hid (BoxH W w.heap.size h A2 m c2) := Lib.hid (by rw [hW]; exact boxH_new w h A2 m c2)
  have hb0 : Below w.heap.size w W := by rw [hW]; exact (Below.refl _ _).alloc (Nat.le_refl _) _
  have HB := Lib.hid hb0
  have T0 := Lib.hid (hl.next hb0)
  have HH := Lib.hid (hh.next hb0)
  have hm2 := hh.few
  unfold maxLen at hm2
  unfold hO at hW
  have HSB := Lib.hid (short_is h0)
  have HL := Lib.hid hl.reads.len
  have hn30 : n ≤ 30 := by rw [← HL.out]; exact HSB.out.1
  have E0 := Lib.hid h0
  have F0 := Lib.hid (short_few' h0)
  have h60d : decide ((60 : Int) < (m : Int)) = false := by simp; omega
  have hmm : m ≤ 100 := by omega
  have HML := Lib.hid hh.reads.1
  have TQ := Lib.hid ht
  have dt : decide (t < 4611686018427387904) = true := decide_eq_true ht2
  have htp : 0 ≤ t := by unfold timeB at ht; exact (of_decide_eq_true ht).1
  have BS0 := busy_sum hr t
  have FB0 := busy_len l t (t + 1)
  obtain ⟨rt, ert⟩ : ∃ r, busyT l t (t + 1) = r := ⟨_, rfl⟩
  rw [ert] at BS0 FB0
  have BS := Lib.hid BS0
  have FB := Lib.hid FB0
  have EBT := Lib.hid ert
  clear ht BS0 FB0 ert
  have hmt := may_times h
  rw [hh.reads.1] at hmt
  have d0 : decide ((0 : Int) < (m : Int)) = true := by simp; omega
  have d0' : decide (0 < m) = true := by simp; omega
  rw [d0'] at hmt
  rw [hy1] at hmt
  have RR := Lib.hid hy1
  rw [hy2] at hmt
  have TF := Lib.hid hy2
  rw [hy3] at hmt
  have TO := Lib.hid hy3
  have d4 : decide (h.frm < h.to) = false := decide_eq_false hy4
  rw [d4] at hmt
  have hE : addE l h = 1 := addE_bad hmt
  obtain ⟨gt, eg⟩ : ∃ b, gotT l h.id = b := ⟨_, rfl⟩
  have EG := Lib.hid eg
  obtain ⟨lt, et⟩ : ∃ r, addT l h = r := ⟨_, rfl⟩
  obtain ⟨x, ex⟩ : ∃ r, getT l h.id = r := ⟨_, rfl⟩
  have ET := Lib.hid et
  have EX := Lib.hid ex
  have EE := Lib.hid hE
  have RT0 := Lib.hid hr
  clear hb0 hl hh h0 h60 hr hmt et ex hE eg hy0 hy1 hy2 hy3 hy4
  go_enter Try.func4, Try.ntmps4
  go_wp2_with fail
  rw [← hW]
  refine (awake10_any H _).mono ?_
  rintro e w1 ⟨rfl, hb⟩
  have HBq := Lib.hid (HB.out.trans (hb.mono HB.out.size))
  clear HB
  have HB := HBq
  clear HBq
  have T0q := Lib.hid (T0.out.next hb)
  clear T0
  have T0 := T0q
  clear T0q
  have HHq := Lib.hid (HH.out.next hb)
  clear HH
  have HH := HHq
  clear HHq
  have BXq := Lib.hid (BX.out.next hb)
  clear BX
  have BX := BXq
  clear BXq
  clear hb
  clear hW
  go_wp2_with fail
  refine (short_b T0.out E0.out).mono ?_
  rintro e w2 ⟨rfl, hb⟩
  have HBq := Lib.hid (HB.out.trans (hb.mono HB.out.size))
  clear HB
  have HB := HBq
  clear HBq
  have T0q := Lib.hid (T0.out.next hb)
  clear T0
  have T0 := T0q
  clear T0q
  have HHq := Lib.hid (HH.out.next hb)
  clear HH
  have HH := HHq
  clear HHq
  have BXq := Lib.hid (BX.out.next hb)
  clear BX
  have BX := BXq
  clear BXq
  clear hb
  have q0 := BX.out.c0
  have q1 := BX.out.c1
  have q2 := BX.out.c2
  have q3 := BX.out.c3
  go_wp2_with fail
  refine (h10_right H T0.out F0.out RT0.out).mono ?_
  rintro e w3 ⟨rfl, hb⟩
  have HBq := Lib.hid (HB.out.trans (hb.mono HB.out.size))
  clear HB
  have HB := HBq
  clear HBq
  have T0q := Lib.hid (T0.out.next hb)
  clear T0
  have T0 := T0q
  clear T0q
  have HHq := Lib.hid (HH.out.next hb)
  clear HH
  have HH := HHq
  clear HHq
  have BXq := Lib.hid (BX.out.next hb)
  clear BX
  have BX := BXq
  clear BXq
  clear hb
  clear q0 q1 q2 q3
  go_wp2_with fail
  refine (time_b TQ.out).mono ?_
  rintro e w4 ⟨rfl, hb⟩
  have HBq := Lib.hid (HB.out.trans (hb.mono HB.out.size))
  clear HB
  have HB := HBq
  clear HBq
  have T0q := Lib.hid (T0.out.next hb)
  clear T0
  have T0 := T0q
  clear T0q
  have HHq := Lib.hid (HH.out.next hb)
  clear HH
  have HH := HHq
  clear HHq
  have BXq := Lib.hid (BX.out.next hb)
  clear BX
  have BX := BXq
  clear BXq
  clear hb
  go_wp2
  go_loopw [7, 8] (fun sv kv wr => ∃ k : Nat, k ≤ n ∧ kv = .int .i64 k ∧ sv = .int .i64 (sumN l t k) ∧ Below w4.heap.size w4 wr) (fun _ kv _ => n - (intOf kv).toNat)
  case atStart => exact ⟨0, Nat.zero_le _, rfl, by simp [sumN], Below.refl _ _⟩
  case round =>
    obtain ⟨k, hk, rfl, rfl, hb⟩ := hrel
    have HR0 := Lib.hid hb
    have HBq := Lib.hid (HB.out.trans (hb.mono HB.out.size))
    clear HB
    have HB := HBq
    clear HBq
    have T0q := Lib.hid (T0.out.next hb)
    clear T0
    have T0 := T0q
    clear T0q
    have HHq := Lib.hid (HH.out.next hb)
    clear HH
    have HH := HHq
    clear HHq
    have BXq := Lib.hid (BX.out.next hb)
    clear BX
    have BX := BXq
    clear BXq
    clear hb
    have HR1 := Lib.hid HR0.out
    clear HR0
    by_cases hlt : k < n
    · have hkl : k < l.length := by rw [HL.out]; exact hlt
      have hsf := sumN_few HSB.out t (k := k) (by omega)
      have hx60 := HSB.out.2 _ (getD_in hkl)
      have hsum := fun x (hx : l.getD k hd0 = x) => sumN_at t hkl hx
      obtain ⟨b, off, A8, m8, c8, rfl, hbl, z0, z1, z2, z3, hx⟩ := RT.one T0.out.reads hlt
      have hm8 := hx.reads.1
      obtain ⟨x, hxx⟩ : ∃ x, l.getD k hd0 = x := ⟨_, rfl⟩
      have hs1 := hsum x hxx
      rw [hxx] at z0 z2 z3 hx60 hm8
      obtain ⟨s, hs⟩ : ∃ s, sumN l t k = s := ⟨_, rfl⟩
      rw [hs] at hs1 hsf
      rw [hs]
      have Z1 := Lib.hid (CellK.mk (p := ⟨b, off + k * 4 + 1, none⟩) hbl z1)
      rw [hm8] at hx60
      cases hmz : meetsZ x.frm x.to t (t + 1) with
      | true =>
        have ME := Lib.hid hmz
        rw [hmz, if_pos rfl, hm8] at hs1
        have HS := Lib.hid hs1
        clear hx hxx hs hs1 hmz hsum hm8 z0 z1 hkl
        go_wp2
        have zc0 : ∀ p : Later wr, p.now.cell? ⟨b, off + k * 4 + 2, none⟩ = some (.int .i64 x.frm) := fun _ => Later.cell hbl z2
        have zc1 : ∀ p : Later wr, p.now.cell? ⟨b, off + k * 4 + 3, none⟩ = some (.int .i64 x.to) := fun _ => Later.cell hbl z3
        refine wp_region_later (by kernel_rfl) (by kernel_rfl) ?_
        repeat (first | go_big_quiet_skip | (go_big_quiet_want; go_big_quiet_op; first | go_big_quiet_on | (apply Exists.intro; refine ⟨fun pz => ?_, ?_⟩; (first | (go_at_call 20; exact Calls.later_of (meets_any ME.out)) | fail); go_big_quiet_on)))
        refine wpQuiet_nil ?_
        intro _ hw'
        obtain ⟨pz, rfl⟩ := hw'
        obtain ⟨w5, hb⟩ := pz
        try dsimp only
        clear zc0 zc1
        have HBq := Lib.hid (HB.out.trans (hb.mono HB.out.size))
        clear HB
        have HB := HBq
        clear HBq
        have HR1q := Lib.hid (HR1.out.trans (hb.mono HR1.out.size))
        clear HR1
        have HR1 := HR1q
        clear HR1q
        have T0q := Lib.hid (T0.out.next hb)
        clear T0
        have T0 := T0q
        clear T0q
        have HHq := Lib.hid (HH.out.next hb)
        clear HH
        have HH := HHq
        clear HHq
        have BXq := Lib.hid (BX.out.next hb)
        clear BX
        have BX := BXq
        clear BXq
        have Z1q := Lib.hid (Z1.out.next hb)
        clear Z1
        have Z1 := Z1q
        clear Z1q
        clear hb
        clear z2 z3 hbl
        have z1 := Z1.out.at'
        go_wp2
        go_roundw
        case rel => exact ⟨k + 1, by omega, by go_num, (by rw [HS.out]; go_num), HR1.out⟩
        case measure => simp [intOf]; omega
      | false =>
        have ME := Lib.hid hmz
        rw [hmz, if_neg (by simp)] at hs1
        have HS := Lib.hid hs1
        clear hx hxx hs hs1 hmz hsum hm8 z0 z1 hkl
        go_wp2
        have zc0 : ∀ p : Later wr, p.now.cell? ⟨b, off + k * 4 + 2, none⟩ = some (.int .i64 x.frm) := fun _ => Later.cell hbl z2
        have zc1 : ∀ p : Later wr, p.now.cell? ⟨b, off + k * 4 + 3, none⟩ = some (.int .i64 x.to) := fun _ => Later.cell hbl z3
        refine wp_region_later (by kernel_rfl) (by kernel_rfl) ?_
        repeat (first | go_big_quiet_skip | (go_big_quiet_want; go_big_quiet_op; first | go_big_quiet_on | (apply Exists.intro; refine ⟨fun pz => ?_, ?_⟩; (first | (go_at_call 20; exact Calls.later_of (meets_any ME.out)) | fail); go_big_quiet_on)))
        refine wpQuiet_nil ?_
        intro _ hw'
        obtain ⟨pz, rfl⟩ := hw'
        obtain ⟨w5, hb⟩ := pz
        try dsimp only
        clear zc0 zc1
        have HBq := Lib.hid (HB.out.trans (hb.mono HB.out.size))
        clear HB
        have HB := HBq
        clear HBq
        have HR1q := Lib.hid (HR1.out.trans (hb.mono HR1.out.size))
        clear HR1
        have HR1 := HR1q
        clear HR1q
        have T0q := Lib.hid (T0.out.next hb)
        clear T0
        have T0 := T0q
        clear T0q
        have HHq := Lib.hid (HH.out.next hb)
        clear HH
        have HH := HHq
        clear HHq
        have BXq := Lib.hid (BX.out.next hb)
        clear BX
        have BX := BXq
        clear BXq
        have Z1q := Lib.hid (Z1.out.next hb)
        clear Z1
        have Z1 := Z1q
        clear Z1q
        clear hb
        clear z2 z3 hbl
        go_wp2
        go_roundw
        case rel => exact ⟨k + 1, by omega, by go_num, (by rw [HS.out]; simp), HR1.out⟩
        case measure => simp [intOf]; omega
    · have hkn : k = n := by omega
      have hsn : sumN l t k = rt.length := by rw [hkn, ← HL.out]; exact BS.out.symm
      have hrt := FB.out
      rw [hsn]
      clear hsn
      go_wp2_with fail
      refine (h10_busy H T0.out F0.out EBT.out).mono ?_
      rintro e w6 ⟨⟨A41, c41, rfl, hr41, hnil41, hc41⟩, hb⟩
      have HBq := Lib.hid (HB.out.trans (hb.mono HB.out.size))
      clear HB
      have HB := HBq
      clear HBq
      have T0q := Lib.hid (T0.out.next hb)
      clear T0
      have T0 := T0q
      clear T0q
      have HHq := Lib.hid (HH.out.next hb)
      clear HH
      have HH := HHq
      clear HHq
      have BXq := Lib.hid (BX.out.next hb)
      clear BX
      have BX := BXq
      clear BXq
      clear hb
      clear hr41 hnil41 hc41
      have q0 := BX.out.c0
      have q1 := BX.out.c1
      have q2 := BX.out.c2
      have q3 := BX.out.c3
      go_wp2_with fail
      refine (h10_add H T0.out F0.out HH.out hmm ET.out EE.out).mono ?_
      rintro e w7 ⟨⟨A31, c31, rfl, hr31, hn31, hc31⟩, hb⟩
      have HBq := Lib.hid (HB.out.trans (hb.mono HB.out.size))
      clear HB
      have HB := HBq
      clear HBq
      have T0q := Lib.hid (T0.out.next hb)
      clear T0
      have T0 := T0q
      clear T0q
      have HHq := Lib.hid (HH.out.next hb)
      clear HH
      have HH := HHq
      clear HHq
      have BXq := Lib.hid (BX.out.next hb)
      clear BX
      have BX := BXq
      clear BXq
      clear hb
      clear hr31 hn31 hc31
      clear q0 q1 q2 q3
      have q0 := BX.out.c0
      have q1 := BX.out.c1
      have q2 := BX.out.c2
      have q3 := BX.out.c3
      go_wp2_with fail
      refine (h10_get H T0.out F0.out EX.out EG.out).mono ?_
      rintro e w8 ⟨⟨A32, m32, c32, rfl, hh32⟩, hb⟩
      have HBq := Lib.hid (HB.out.trans (hb.mono HB.out.size))
      clear HB
      have HB := HBq
      clear HBq
      have T0q := Lib.hid (T0.out.next hb)
      clear T0
      have T0 := T0q
      clear T0q
      have HHq := Lib.hid (HH.out.next hb)
      clear HH
      have HH := HHq
      clear HHq
      have BXq := Lib.hid (BX.out.next hb)
      clear BX
      have BX := BXq
      clear BXq
      clear hb
      clear hh32
      clear q0 q1 q2 q3
      have hb := Below.alloc (Below.refl w8.heap.size w8) (Nat.le_refl _) (.cells #[.int .i64 x.id, .slice A32 m32 c32, .int .i64 x.frm, .int .i64 x.to] 36)
      have HBq := Lib.hid (HB.out.trans (hb.mono HB.out.size))
      clear HB
      have HB := HBq
      clear HBq
      have T0q := Lib.hid (T0.out.next hb)
      clear T0
      have T0 := T0q
      clear T0q
      have HHq := Lib.hid (HH.out.next hb)
      clear HH
      have HH := HHq
      clear HHq
      have BXq := Lib.hid (BX.out.next hb)
      clear BX
      have BX := BXq
      clear BXq
      clear hb
      have q0 := BX.out.c0
      have q1 := BX.out.c1
      have q2 := BX.out.c2
      have q3 := BX.out.c3
      go_wp2_with fail
      refine (s_isSet HH.out.reads HH.out.few RR.out).mono ?_
      rintro e w9 ⟨rfl, hb⟩
      have HBq := Lib.hid (HB.out.trans (hb.mono HB.out.size))
      clear HB
      have HB := HBq
      clear HBq
      have T0q := Lib.hid (T0.out.next hb)
      clear T0
      have T0 := T0q
      clear T0q
      have HHq := Lib.hid (HH.out.next hb)
      clear HH
      have HH := HHq
      clear HHq
      have BXq := Lib.hid (BX.out.next hb)
      clear BX
      have BX := BXq
      clear BXq
      clear hb
      clear q0 q1 q2 q3
      have q0 := BX.out.c0
      have q1 := BX.out.c1
      have q2 := BX.out.c2
      have q3 := BX.out.c3
      go_wp2_with fail
      refine (time_b TF.out).mono ?_
      rintro e w10 ⟨rfl, hb⟩
      have HBq := Lib.hid (HB.out.trans (hb.mono HB.out.size))
      clear HB
      have HB := HBq
      clear HBq
      have T0q := Lib.hid (T0.out.next hb)
      clear T0
      have T0 := T0q
      clear T0q
      have HHq := Lib.hid (HH.out.next hb)
      clear HH
      have HH := HHq
      clear HHq
      have BXq := Lib.hid (BX.out.next hb)
      clear BX
      have BX := BXq
      clear BXq
      clear hb
      clear q0 q1 q2 q3
      have q0 := BX.out.c0
      have q1 := BX.out.c1
      have q2 := BX.out.c2
      have q3 := BX.out.c3
      go_wp2_with fail
      refine (time_b TO.out).mono ?_
      rintro e w11 ⟨rfl, hb⟩
      have HBq := Lib.hid (HB.out.trans (hb.mono HB.out.size))
      clear HB
      have HB := HBq
      clear HBq
      have T0q := Lib.hid (T0.out.next hb)
      clear T0
      have T0 := T0q
      clear T0q
      have HHq := Lib.hid (HH.out.next hb)
      clear HH
      have HH := HHq
      clear HHq
      have BXq := Lib.hid (BX.out.next hb)
      clear BX
      have BX := BXq
      clear BXq
      clear hb
      clear q0 q1 q2 q3
      have q0 := BX.out.c0
      have q1 := BX.out.c1
      have q2 := BX.out.c2
      have q3 := BX.out.c3
      go_wp2
      go_ret
      exact ⟨rfl, HB.out⟩

set_option maxRecDepth 100000 in
set_option maxHeartbeats 8000000 in
theorem heldApart_y5 (H : HeldOk) (A : Option Addr) (n c : Nat) (l : Tb) (t : Int) (A2 : Option Addr) (m c2 : Nat) (h : Hd) (w : World) (hl : TAsk w A n c l) (hh : HAsk w A2 m c2 h) (h0 : shortT l = true) (h60 : ¬ 60 < m) (hr : rightT l = true) (ht : timeB t = true) (ht2 : t < 4611686018427387904) (hy0 : 0 < m) (hy1 : rightB h.things = true) (hy2 : timeB h.frm = true) (hy3 : timeB h.to = true) (hy4 : h.frm < h.to) (hy5 : hasT l h.id = true) :
    Calls Try.prog 4 #[.slice A n c, .int .i64 t, .agg #[.int .i64 h.id, .slice A2 m c2, .int .i64 h.frm, .int .i64 h.to]] w fun e w' => e = .returned (.bool true) ∧ Below w.heap.size w w' := by
  obtain ⟨W, hW⟩ : ∃ W, W = w.alloc (hO h A2 m c2) := ⟨_, rfl⟩
  have BX : Hid (BoxH W w.heap.size h A2 m c2) := Lib.hid (by rw [hW]; exact boxH_new w h A2 m c2)
  have hb0 : Below w.heap.size w W := by rw [hW]; exact (Below.refl _ _).alloc (Nat.le_refl _) _
  have HB := Lib.hid hb0
  have T0 := Lib.hid (hl.next hb0)
  have HH := Lib.hid (hh.next hb0)
  have hm2 := hh.few
  unfold maxLen at hm2
  unfold hO at hW
  have HSB := Lib.hid (short_is h0)
  have HL := Lib.hid hl.reads.len
  have hn30 : n ≤ 30 := by rw [← HL.out]; exact HSB.out.1
  have E0 := Lib.hid h0
  have F0 := Lib.hid (short_few' h0)
  have h60d : decide ((60 : Int) < (m : Int)) = false := by simp; omega
  have hmm : m ≤ 100 := by omega
  have HML := Lib.hid hh.reads.1
  have TQ := Lib.hid ht
  have dt : decide (t < 4611686018427387904) = true := decide_eq_true ht2
  have htp : 0 ≤ t := by unfold timeB at ht; exact (of_decide_eq_true ht).1
  have BS0 := busy_sum hr t
  have FB0 := busy_len l t (t + 1)
  obtain ⟨rt, ert⟩ : ∃ r, busyT l t (t + 1) = r := ⟨_, rfl⟩
  rw [ert] at BS0 FB0
  have BS := Lib.hid BS0
  have FB := Lib.hid FB0
  have EBT := Lib.hid ert
  clear ht BS0 FB0 ert
  have hmt := may_times h
  rw [hh.reads.1] at hmt
  have d0 : decide ((0 : Int) < (m : Int)) = true := by simp; omega
  have d0' : decide (0 < m) = true := by simp; omega
  rw [d0'] at hmt
  rw [hy1] at hmt
  have RR := Lib.hid hy1
  rw [hy2] at hmt
  have TF := Lib.hid hy2
  rw [hy3] at hmt
  have TO := Lib.hid hy3
  have d4 : decide (h.frm < h.to) = true := decide_eq_true hy4
  rw [d4] at hmt
  have hE : addE l h = 7 := addE_there hr hmt hy5
  have eg : gotT l h.id = true := by rw [got_is hr, hy5]
  have EG := Lib.hid eg
  obtain ⟨lt, et⟩ : ∃ r, addT l h = r := ⟨_, rfl⟩
  obtain ⟨x, ex⟩ : ∃ r, getT l h.id = r := ⟨_, rfl⟩
  have ET := Lib.hid et
  have EX := Lib.hid ex
  have EE := Lib.hid hE
  have RT0 := Lib.hid hr
  clear hb0 hl hh h0 h60 hr hmt et ex hE eg hy0 hy1 hy2 hy3 hy4 hy5
  go_enter Try.func4, Try.ntmps4
  go_wp2_with fail
  rw [← hW]
  refine (awake10_any H _).mono ?_
  rintro e w1 ⟨rfl, hb⟩
  have HBq := Lib.hid (HB.out.trans (hb.mono HB.out.size))
  clear HB
  have HB := HBq
  clear HBq
  have T0q := Lib.hid (T0.out.next hb)
  clear T0
  have T0 := T0q
  clear T0q
  have HHq := Lib.hid (HH.out.next hb)
  clear HH
  have HH := HHq
  clear HHq
  have BXq := Lib.hid (BX.out.next hb)
  clear BX
  have BX := BXq
  clear BXq
  clear hb
  clear hW
  go_wp2_with fail
  refine (short_b T0.out E0.out).mono ?_
  rintro e w2 ⟨rfl, hb⟩
  have HBq := Lib.hid (HB.out.trans (hb.mono HB.out.size))
  clear HB
  have HB := HBq
  clear HBq
  have T0q := Lib.hid (T0.out.next hb)
  clear T0
  have T0 := T0q
  clear T0q
  have HHq := Lib.hid (HH.out.next hb)
  clear HH
  have HH := HHq
  clear HHq
  have BXq := Lib.hid (BX.out.next hb)
  clear BX
  have BX := BXq
  clear BXq
  clear hb
  have q0 := BX.out.c0
  have q1 := BX.out.c1
  have q2 := BX.out.c2
  have q3 := BX.out.c3
  go_wp2_with fail
  refine (h10_right H T0.out F0.out RT0.out).mono ?_
  rintro e w3 ⟨rfl, hb⟩
  have HBq := Lib.hid (HB.out.trans (hb.mono HB.out.size))
  clear HB
  have HB := HBq
  clear HBq
  have T0q := Lib.hid (T0.out.next hb)
  clear T0
  have T0 := T0q
  clear T0q
  have HHq := Lib.hid (HH.out.next hb)
  clear HH
  have HH := HHq
  clear HHq
  have BXq := Lib.hid (BX.out.next hb)
  clear BX
  have BX := BXq
  clear BXq
  clear hb
  clear q0 q1 q2 q3
  go_wp2_with fail
  refine (time_b TQ.out).mono ?_
  rintro e w4 ⟨rfl, hb⟩
  have HBq := Lib.hid (HB.out.trans (hb.mono HB.out.size))
  clear HB
  have HB := HBq
  clear HBq
  have T0q := Lib.hid (T0.out.next hb)
  clear T0
  have T0 := T0q
  clear T0q
  have HHq := Lib.hid (HH.out.next hb)
  clear HH
  have HH := HHq
  clear HHq
  have BXq := Lib.hid (BX.out.next hb)
  clear BX
  have BX := BXq
  clear BXq
  clear hb
  go_wp2
  go_loopw [7, 8] (fun sv kv wr => ∃ k : Nat, k ≤ n ∧ kv = .int .i64 k ∧ sv = .int .i64 (sumN l t k) ∧ Below w4.heap.size w4 wr) (fun _ kv _ => n - (intOf kv).toNat)
  case atStart => exact ⟨0, Nat.zero_le _, rfl, by simp [sumN], Below.refl _ _⟩
  case round =>
    obtain ⟨k, hk, rfl, rfl, hb⟩ := hrel
    have HR0 := Lib.hid hb
    have HBq := Lib.hid (HB.out.trans (hb.mono HB.out.size))
    clear HB
    have HB := HBq
    clear HBq
    have T0q := Lib.hid (T0.out.next hb)
    clear T0
    have T0 := T0q
    clear T0q
    have HHq := Lib.hid (HH.out.next hb)
    clear HH
    have HH := HHq
    clear HHq
    have BXq := Lib.hid (BX.out.next hb)
    clear BX
    have BX := BXq
    clear BXq
    clear hb
    have HR1 := Lib.hid HR0.out
    clear HR0
    by_cases hlt : k < n
    · have hkl : k < l.length := by rw [HL.out]; exact hlt
      have hsf := sumN_few HSB.out t (k := k) (by omega)
      have hx60 := HSB.out.2 _ (getD_in hkl)
      have hsum := fun x (hx : l.getD k hd0 = x) => sumN_at t hkl hx
      obtain ⟨b, off, A8, m8, c8, rfl, hbl, z0, z1, z2, z3, hx⟩ := RT.one T0.out.reads hlt
      have hm8 := hx.reads.1
      obtain ⟨x, hxx⟩ : ∃ x, l.getD k hd0 = x := ⟨_, rfl⟩
      have hs1 := hsum x hxx
      rw [hxx] at z0 z2 z3 hx60 hm8
      obtain ⟨s, hs⟩ : ∃ s, sumN l t k = s := ⟨_, rfl⟩
      rw [hs] at hs1 hsf
      rw [hs]
      have Z1 := Lib.hid (CellK.mk (p := ⟨b, off + k * 4 + 1, none⟩) hbl z1)
      rw [hm8] at hx60
      cases hmz : meetsZ x.frm x.to t (t + 1) with
      | true =>
        have ME := Lib.hid hmz
        rw [hmz, if_pos rfl, hm8] at hs1
        have HS := Lib.hid hs1
        clear hx hxx hs hs1 hmz hsum hm8 z0 z1 hkl
        go_wp2
        have zc0 : ∀ p : Later wr, p.now.cell? ⟨b, off + k * 4 + 2, none⟩ = some (.int .i64 x.frm) := fun _ => Later.cell hbl z2
        have zc1 : ∀ p : Later wr, p.now.cell? ⟨b, off + k * 4 + 3, none⟩ = some (.int .i64 x.to) := fun _ => Later.cell hbl z3
        refine wp_region_later (by kernel_rfl) (by kernel_rfl) ?_
        repeat (first | go_big_quiet_skip | (go_big_quiet_want; go_big_quiet_op; first | go_big_quiet_on | (apply Exists.intro; refine ⟨fun pz => ?_, ?_⟩; (first | (go_at_call 20; exact Calls.later_of (meets_any ME.out)) | fail); go_big_quiet_on)))
        refine wpQuiet_nil ?_
        intro _ hw'
        obtain ⟨pz, rfl⟩ := hw'
        obtain ⟨w5, hb⟩ := pz
        try dsimp only
        clear zc0 zc1
        have HBq := Lib.hid (HB.out.trans (hb.mono HB.out.size))
        clear HB
        have HB := HBq
        clear HBq
        have HR1q := Lib.hid (HR1.out.trans (hb.mono HR1.out.size))
        clear HR1
        have HR1 := HR1q
        clear HR1q
        have T0q := Lib.hid (T0.out.next hb)
        clear T0
        have T0 := T0q
        clear T0q
        have HHq := Lib.hid (HH.out.next hb)
        clear HH
        have HH := HHq
        clear HHq
        have BXq := Lib.hid (BX.out.next hb)
        clear BX
        have BX := BXq
        clear BXq
        have Z1q := Lib.hid (Z1.out.next hb)
        clear Z1
        have Z1 := Z1q
        clear Z1q
        clear hb
        clear z2 z3 hbl
        have z1 := Z1.out.at'
        go_wp2
        go_roundw
        case rel => exact ⟨k + 1, by omega, by go_num, (by rw [HS.out]; go_num), HR1.out⟩
        case measure => simp [intOf]; omega
      | false =>
        have ME := Lib.hid hmz
        rw [hmz, if_neg (by simp)] at hs1
        have HS := Lib.hid hs1
        clear hx hxx hs hs1 hmz hsum hm8 z0 z1 hkl
        go_wp2
        have zc0 : ∀ p : Later wr, p.now.cell? ⟨b, off + k * 4 + 2, none⟩ = some (.int .i64 x.frm) := fun _ => Later.cell hbl z2
        have zc1 : ∀ p : Later wr, p.now.cell? ⟨b, off + k * 4 + 3, none⟩ = some (.int .i64 x.to) := fun _ => Later.cell hbl z3
        refine wp_region_later (by kernel_rfl) (by kernel_rfl) ?_
        repeat (first | go_big_quiet_skip | (go_big_quiet_want; go_big_quiet_op; first | go_big_quiet_on | (apply Exists.intro; refine ⟨fun pz => ?_, ?_⟩; (first | (go_at_call 20; exact Calls.later_of (meets_any ME.out)) | fail); go_big_quiet_on)))
        refine wpQuiet_nil ?_
        intro _ hw'
        obtain ⟨pz, rfl⟩ := hw'
        obtain ⟨w5, hb⟩ := pz
        try dsimp only
        clear zc0 zc1
        have HBq := Lib.hid (HB.out.trans (hb.mono HB.out.size))
        clear HB
        have HB := HBq
        clear HBq
        have HR1q := Lib.hid (HR1.out.trans (hb.mono HR1.out.size))
        clear HR1
        have HR1 := HR1q
        clear HR1q
        have T0q := Lib.hid (T0.out.next hb)
        clear T0
        have T0 := T0q
        clear T0q
        have HHq := Lib.hid (HH.out.next hb)
        clear HH
        have HH := HHq
        clear HHq
        have BXq := Lib.hid (BX.out.next hb)
        clear BX
        have BX := BXq
        clear BXq
        have Z1q := Lib.hid (Z1.out.next hb)
        clear Z1
        have Z1 := Z1q
        clear Z1q
        clear hb
        clear z2 z3 hbl
        go_wp2
        go_roundw
        case rel => exact ⟨k + 1, by omega, by go_num, (by rw [HS.out]; simp), HR1.out⟩
        case measure => simp [intOf]; omega
    · have hkn : k = n := by omega
      have hsn : sumN l t k = rt.length := by rw [hkn, ← HL.out]; exact BS.out.symm
      have hrt := FB.out
      rw [hsn]
      clear hsn
      go_wp2_with fail
      refine (h10_busy H T0.out F0.out EBT.out).mono ?_
      rintro e w6 ⟨⟨A41, c41, rfl, hr41, hnil41, hc41⟩, hb⟩
      have HBq := Lib.hid (HB.out.trans (hb.mono HB.out.size))
      clear HB
      have HB := HBq
      clear HBq
      have T0q := Lib.hid (T0.out.next hb)
      clear T0
      have T0 := T0q
      clear T0q
      have HHq := Lib.hid (HH.out.next hb)
      clear HH
      have HH := HHq
      clear HHq
      have BXq := Lib.hid (BX.out.next hb)
      clear BX
      have BX := BXq
      clear BXq
      clear hb
      clear hr41 hnil41 hc41
      have q0 := BX.out.c0
      have q1 := BX.out.c1
      have q2 := BX.out.c2
      have q3 := BX.out.c3
      go_wp2_with fail
      refine (h10_add H T0.out F0.out HH.out hmm ET.out EE.out).mono ?_
      rintro e w7 ⟨⟨A31, c31, rfl, hr31, hn31, hc31⟩, hb⟩
      have HBq := Lib.hid (HB.out.trans (hb.mono HB.out.size))
      clear HB
      have HB := HBq
      clear HBq
      have T0q := Lib.hid (T0.out.next hb)
      clear T0
      have T0 := T0q
      clear T0q
      have HHq := Lib.hid (HH.out.next hb)
      clear HH
      have HH := HHq
      clear HHq
      have BXq := Lib.hid (BX.out.next hb)
      clear BX
      have BX := BXq
      clear BXq
      clear hb
      clear hr31 hn31 hc31
      clear q0 q1 q2 q3
      have q0 := BX.out.c0
      have q1 := BX.out.c1
      have q2 := BX.out.c2
      have q3 := BX.out.c3
      go_wp2_with fail
      refine (h10_get H T0.out F0.out EX.out EG.out).mono ?_
      rintro e w8 ⟨⟨A32, m32, c32, rfl, hh32⟩, hb⟩
      have HBq := Lib.hid (HB.out.trans (hb.mono HB.out.size))
      clear HB
      have HB := HBq
      clear HBq
      have T0q := Lib.hid (T0.out.next hb)
      clear T0
      have T0 := T0q
      clear T0q
      have HHq := Lib.hid (HH.out.next hb)
      clear HH
      have HH := HHq
      clear HHq
      have BXq := Lib.hid (BX.out.next hb)
      clear BX
      have BX := BXq
      clear BXq
      clear hb
      clear hh32
      clear q0 q1 q2 q3
      have hb := Below.alloc (Below.refl w8.heap.size w8) (Nat.le_refl _) (.cells #[.int .i64 x.id, .slice A32 m32 c32, .int .i64 x.frm, .int .i64 x.to] 36)
      have HBq := Lib.hid (HB.out.trans (hb.mono HB.out.size))
      clear HB
      have HB := HBq
      clear HBq
      have T0q := Lib.hid (T0.out.next hb)
      clear T0
      have T0 := T0q
      clear T0q
      have HHq := Lib.hid (HH.out.next hb)
      clear HH
      have HH := HHq
      clear HHq
      have BXq := Lib.hid (BX.out.next hb)
      clear BX
      have BX := BXq
      clear BXq
      clear hb
      have q0 := BX.out.c0
      have q1 := BX.out.c1
      have q2 := BX.out.c2
      have q3 := BX.out.c3
      go_wp2_with fail
      refine (s_isSet HH.out.reads HH.out.few RR.out).mono ?_
      rintro e w9 ⟨rfl, hb⟩
      have HBq := Lib.hid (HB.out.trans (hb.mono HB.out.size))
      clear HB
      have HB := HBq
      clear HBq
      have T0q := Lib.hid (T0.out.next hb)
      clear T0
      have T0 := T0q
      clear T0q
      have HHq := Lib.hid (HH.out.next hb)
      clear HH
      have HH := HHq
      clear HHq
      have BXq := Lib.hid (BX.out.next hb)
      clear BX
      have BX := BXq
      clear BXq
      clear hb
      clear q0 q1 q2 q3
      have q0 := BX.out.c0
      have q1 := BX.out.c1
      have q2 := BX.out.c2
      have q3 := BX.out.c3
      go_wp2_with fail
      refine (time_b TF.out).mono ?_
      rintro e w10 ⟨rfl, hb⟩
      have HBq := Lib.hid (HB.out.trans (hb.mono HB.out.size))
      clear HB
      have HB := HBq
      clear HBq
      have T0q := Lib.hid (T0.out.next hb)
      clear T0
      have T0 := T0q
      clear T0q
      have HHq := Lib.hid (HH.out.next hb)
      clear HH
      have HH := HHq
      clear HHq
      have BXq := Lib.hid (BX.out.next hb)
      clear BX
      have BX := BXq
      clear BXq
      clear hb
      clear q0 q1 q2 q3
      have q0 := BX.out.c0
      have q1 := BX.out.c1
      have q2 := BX.out.c2
      have q3 := BX.out.c3
      go_wp2_with fail
      refine (time_b TO.out).mono ?_
      rintro e w11 ⟨rfl, hb⟩
      have HBq := Lib.hid (HB.out.trans (hb.mono HB.out.size))
      clear HB
      have HB := HBq
      clear HBq
      have T0q := Lib.hid (T0.out.next hb)
      clear T0
      have T0 := T0q
      clear T0q
      have HHq := Lib.hid (HH.out.next hb)
      clear HH
      have HH := HHq
      clear HHq
      have BXq := Lib.hid (BX.out.next hb)
      clear BX
      have BX := BXq
      clear BXq
      clear hb
      clear q0 q1 q2 q3
      have q0 := BX.out.c0
      have q1 := BX.out.c1
      have q2 := BX.out.c2
      have q3 := BX.out.c3
      go_wp2
      go_ret
      exact ⟨rfl, HB.out⟩

set_option maxRecDepth 100000 in
set_option maxHeartbeats 8000000 in
theorem heldApart_y6 (H : HeldOk) (A : Option Addr) (n c : Nat) (l : Tb) (t : Int) (A2 : Option Addr) (m c2 : Nat) (h : Hd) (w : World) (hl : TAsk w A n c l) (hh : HAsk w A2 m c2 h) (h0 : shortT l = true) (h60 : ¬ 60 < m) (hr : rightT l = true) (ht : timeB t = true) (ht2 : t < 4611686018427387904) (hy0 : 0 < m) (hy1 : rightB h.things = true) (hy2 : timeB h.frm = true) (hy3 : timeB h.to = true) (hy4 : h.frm < h.to) (hy5 : hasT l h.id = false) (hy6 : apartB (busyT l h.frm h.to) h.things = true) :
    Calls Try.prog 4 #[.slice A n c, .int .i64 t, .agg #[.int .i64 h.id, .slice A2 m c2, .int .i64 h.frm, .int .i64 h.to]] w fun e w' => e = .returned (.bool true) ∧ Below w.heap.size w w' := by
  obtain ⟨W, hW⟩ : ∃ W, W = w.alloc (hO h A2 m c2) := ⟨_, rfl⟩
  have BX : Hid (BoxH W w.heap.size h A2 m c2) := Lib.hid (by rw [hW]; exact boxH_new w h A2 m c2)
  have hb0 : Below w.heap.size w W := by rw [hW]; exact (Below.refl _ _).alloc (Nat.le_refl _) _
  have HB := Lib.hid hb0
  have T0 := Lib.hid (hl.next hb0)
  have HH := Lib.hid (hh.next hb0)
  have hm2 := hh.few
  unfold maxLen at hm2
  unfold hO at hW
  have HSB := Lib.hid (short_is h0)
  have HL := Lib.hid hl.reads.len
  have hn30 : n ≤ 30 := by rw [← HL.out]; exact HSB.out.1
  have E0 := Lib.hid h0
  have F0 := Lib.hid (short_few' h0)
  have h60d : decide ((60 : Int) < (m : Int)) = false := by simp; omega
  have hmm : m ≤ 100 := by omega
  have HML := Lib.hid hh.reads.1
  have TQ := Lib.hid ht
  have dt : decide (t < 4611686018427387904) = true := decide_eq_true ht2
  have htp : 0 ≤ t := by unfold timeB at ht; exact (of_decide_eq_true ht).1
  have BS0 := busy_sum hr t
  have FB0 := busy_len l t (t + 1)
  obtain ⟨rt, ert⟩ : ∃ r, busyT l t (t + 1) = r := ⟨_, rfl⟩
  rw [ert] at BS0 FB0
  have BS := Lib.hid BS0
  have FB := Lib.hid FB0
  have EBT := Lib.hid ert
  clear ht BS0 FB0 ert
  have hmt := may_times h
  rw [hh.reads.1] at hmt
  have d0 : decide ((0 : Int) < (m : Int)) = true := by simp; omega
  have d0' : decide (0 < m) = true := by simp; omega
  rw [d0'] at hmt
  rw [hy1] at hmt
  have RR := Lib.hid hy1
  rw [hy2] at hmt
  have TF := Lib.hid hy2
  rw [hy3] at hmt
  have TO := Lib.hid hy3
  have d4 : decide (h.frm < h.to) = true := decide_eq_true hy4
  rw [d4] at hmt
  have hE0 := addE_apart hr hmt hy5 HSB.out.1
  rw [hy6] at hE0
  obtain ⟨er, hE⟩ : ∃ e, addE l h = e := ⟨_, rfl⟩
  rw [hE] at hE0
  have eg : gotT l h.id = false := by rw [got_is hr, hy5]
  have EG := Lib.hid eg
  have FC0 := busy_len l h.frm h.to
  obtain ⟨rb, eb⟩ : ∃ r, busyT l h.frm h.to = r := ⟨_, rfl⟩
  rw [eb] at FC0 hy6
  have FC := Lib.hid FC0
  have EB := Lib.hid eb
  have EAP := Lib.hid hy6
  clear FC0 eb hy6
  obtain ⟨lt, et⟩ : ∃ r, addT l h = r := ⟨_, rfl⟩
  obtain ⟨x, ex⟩ : ∃ r, getT l h.id = r := ⟨_, rfl⟩
  have ET := Lib.hid et
  have EX := Lib.hid ex
  have EE := Lib.hid hE
  have RT0 := Lib.hid hr
  clear hb0 hl hh h0 h60 hr hmt et ex hE eg hy0 hy1 hy2 hy3 hy4 hy5
  go_enter Try.func4, Try.ntmps4
  go_wp2_with fail
  rw [← hW]
  refine (awake10_any H _).mono ?_
  rintro e w1 ⟨rfl, hb⟩
  have HBq := Lib.hid (HB.out.trans (hb.mono HB.out.size))
  clear HB
  have HB := HBq
  clear HBq
  have T0q := Lib.hid (T0.out.next hb)
  clear T0
  have T0 := T0q
  clear T0q
  have HHq := Lib.hid (HH.out.next hb)
  clear HH
  have HH := HHq
  clear HHq
  have BXq := Lib.hid (BX.out.next hb)
  clear BX
  have BX := BXq
  clear BXq
  clear hb
  clear hW
  go_wp2_with fail
  refine (short_b T0.out E0.out).mono ?_
  rintro e w2 ⟨rfl, hb⟩
  have HBq := Lib.hid (HB.out.trans (hb.mono HB.out.size))
  clear HB
  have HB := HBq
  clear HBq
  have T0q := Lib.hid (T0.out.next hb)
  clear T0
  have T0 := T0q
  clear T0q
  have HHq := Lib.hid (HH.out.next hb)
  clear HH
  have HH := HHq
  clear HHq
  have BXq := Lib.hid (BX.out.next hb)
  clear BX
  have BX := BXq
  clear BXq
  clear hb
  have q0 := BX.out.c0
  have q1 := BX.out.c1
  have q2 := BX.out.c2
  have q3 := BX.out.c3
  go_wp2_with fail
  refine (h10_right H T0.out F0.out RT0.out).mono ?_
  rintro e w3 ⟨rfl, hb⟩
  have HBq := Lib.hid (HB.out.trans (hb.mono HB.out.size))
  clear HB
  have HB := HBq
  clear HBq
  have T0q := Lib.hid (T0.out.next hb)
  clear T0
  have T0 := T0q
  clear T0q
  have HHq := Lib.hid (HH.out.next hb)
  clear HH
  have HH := HHq
  clear HHq
  have BXq := Lib.hid (BX.out.next hb)
  clear BX
  have BX := BXq
  clear BXq
  clear hb
  clear q0 q1 q2 q3
  go_wp2_with fail
  refine (time_b TQ.out).mono ?_
  rintro e w4 ⟨rfl, hb⟩
  have HBq := Lib.hid (HB.out.trans (hb.mono HB.out.size))
  clear HB
  have HB := HBq
  clear HBq
  have T0q := Lib.hid (T0.out.next hb)
  clear T0
  have T0 := T0q
  clear T0q
  have HHq := Lib.hid (HH.out.next hb)
  clear HH
  have HH := HHq
  clear HHq
  have BXq := Lib.hid (BX.out.next hb)
  clear BX
  have BX := BXq
  clear BXq
  clear hb
  go_wp2
  go_loopw [7, 8] (fun sv kv wr => ∃ k : Nat, k ≤ n ∧ kv = .int .i64 k ∧ sv = .int .i64 (sumN l t k) ∧ Below w4.heap.size w4 wr) (fun _ kv _ => n - (intOf kv).toNat)
  case atStart => exact ⟨0, Nat.zero_le _, rfl, by simp [sumN], Below.refl _ _⟩
  case round =>
    obtain ⟨k, hk, rfl, rfl, hb⟩ := hrel
    have HR0 := Lib.hid hb
    have HBq := Lib.hid (HB.out.trans (hb.mono HB.out.size))
    clear HB
    have HB := HBq
    clear HBq
    have T0q := Lib.hid (T0.out.next hb)
    clear T0
    have T0 := T0q
    clear T0q
    have HHq := Lib.hid (HH.out.next hb)
    clear HH
    have HH := HHq
    clear HHq
    have BXq := Lib.hid (BX.out.next hb)
    clear BX
    have BX := BXq
    clear BXq
    clear hb
    have HR1 := Lib.hid HR0.out
    clear HR0
    by_cases hlt : k < n
    · have hkl : k < l.length := by rw [HL.out]; exact hlt
      have hsf := sumN_few HSB.out t (k := k) (by omega)
      have hx60 := HSB.out.2 _ (getD_in hkl)
      have hsum := fun x (hx : l.getD k hd0 = x) => sumN_at t hkl hx
      obtain ⟨b, off, A8, m8, c8, rfl, hbl, z0, z1, z2, z3, hx⟩ := RT.one T0.out.reads hlt
      have hm8 := hx.reads.1
      obtain ⟨x, hxx⟩ : ∃ x, l.getD k hd0 = x := ⟨_, rfl⟩
      have hs1 := hsum x hxx
      rw [hxx] at z0 z2 z3 hx60 hm8
      obtain ⟨s, hs⟩ : ∃ s, sumN l t k = s := ⟨_, rfl⟩
      rw [hs] at hs1 hsf
      rw [hs]
      have Z1 := Lib.hid (CellK.mk (p := ⟨b, off + k * 4 + 1, none⟩) hbl z1)
      rw [hm8] at hx60
      cases hmz : meetsZ x.frm x.to t (t + 1) with
      | true =>
        have ME := Lib.hid hmz
        rw [hmz, if_pos rfl, hm8] at hs1
        have HS := Lib.hid hs1
        clear hx hxx hs hs1 hmz hsum hm8 z0 z1 hkl
        go_wp2
        have zc0 : ∀ p : Later wr, p.now.cell? ⟨b, off + k * 4 + 2, none⟩ = some (.int .i64 x.frm) := fun _ => Later.cell hbl z2
        have zc1 : ∀ p : Later wr, p.now.cell? ⟨b, off + k * 4 + 3, none⟩ = some (.int .i64 x.to) := fun _ => Later.cell hbl z3
        refine wp_region_later (by kernel_rfl) (by kernel_rfl) ?_
        repeat (first | go_big_quiet_skip | (go_big_quiet_want; go_big_quiet_op; first | go_big_quiet_on | (apply Exists.intro; refine ⟨fun pz => ?_, ?_⟩; (first | (go_at_call 20; exact Calls.later_of (meets_any ME.out)) | fail); go_big_quiet_on)))
        refine wpQuiet_nil ?_
        intro _ hw'
        obtain ⟨pz, rfl⟩ := hw'
        obtain ⟨w5, hb⟩ := pz
        try dsimp only
        clear zc0 zc1
        have HBq := Lib.hid (HB.out.trans (hb.mono HB.out.size))
        clear HB
        have HB := HBq
        clear HBq
        have HR1q := Lib.hid (HR1.out.trans (hb.mono HR1.out.size))
        clear HR1
        have HR1 := HR1q
        clear HR1q
        have T0q := Lib.hid (T0.out.next hb)
        clear T0
        have T0 := T0q
        clear T0q
        have HHq := Lib.hid (HH.out.next hb)
        clear HH
        have HH := HHq
        clear HHq
        have BXq := Lib.hid (BX.out.next hb)
        clear BX
        have BX := BXq
        clear BXq
        have Z1q := Lib.hid (Z1.out.next hb)
        clear Z1
        have Z1 := Z1q
        clear Z1q
        clear hb
        clear z2 z3 hbl
        have z1 := Z1.out.at'
        go_wp2
        go_roundw
        case rel => exact ⟨k + 1, by omega, by go_num, (by rw [HS.out]; go_num), HR1.out⟩
        case measure => simp [intOf]; omega
      | false =>
        have ME := Lib.hid hmz
        rw [hmz, if_neg (by simp)] at hs1
        have HS := Lib.hid hs1
        clear hx hxx hs hs1 hmz hsum hm8 z0 z1 hkl
        go_wp2
        have zc0 : ∀ p : Later wr, p.now.cell? ⟨b, off + k * 4 + 2, none⟩ = some (.int .i64 x.frm) := fun _ => Later.cell hbl z2
        have zc1 : ∀ p : Later wr, p.now.cell? ⟨b, off + k * 4 + 3, none⟩ = some (.int .i64 x.to) := fun _ => Later.cell hbl z3
        refine wp_region_later (by kernel_rfl) (by kernel_rfl) ?_
        repeat (first | go_big_quiet_skip | (go_big_quiet_want; go_big_quiet_op; first | go_big_quiet_on | (apply Exists.intro; refine ⟨fun pz => ?_, ?_⟩; (first | (go_at_call 20; exact Calls.later_of (meets_any ME.out)) | fail); go_big_quiet_on)))
        refine wpQuiet_nil ?_
        intro _ hw'
        obtain ⟨pz, rfl⟩ := hw'
        obtain ⟨w5, hb⟩ := pz
        try dsimp only
        clear zc0 zc1
        have HBq := Lib.hid (HB.out.trans (hb.mono HB.out.size))
        clear HB
        have HB := HBq
        clear HBq
        have HR1q := Lib.hid (HR1.out.trans (hb.mono HR1.out.size))
        clear HR1
        have HR1 := HR1q
        clear HR1q
        have T0q := Lib.hid (T0.out.next hb)
        clear T0
        have T0 := T0q
        clear T0q
        have HHq := Lib.hid (HH.out.next hb)
        clear HH
        have HH := HHq
        clear HHq
        have BXq := Lib.hid (BX.out.next hb)
        clear BX
        have BX := BXq
        clear BXq
        have Z1q := Lib.hid (Z1.out.next hb)
        clear Z1
        have Z1 := Z1q
        clear Z1q
        clear hb
        clear z2 z3 hbl
        go_wp2
        go_roundw
        case rel => exact ⟨k + 1, by omega, by go_num, (by rw [HS.out]; simp), HR1.out⟩
        case measure => simp [intOf]; omega
    · have hkn : k = n := by omega
      have hsn : sumN l t k = rt.length := by rw [hkn, ← HL.out]; exact BS.out.symm
      have hrt := FB.out
      rw [hsn]
      clear hsn
      go_wp2_with fail
      refine (h10_busy H T0.out F0.out EBT.out).mono ?_
      rintro e w6 ⟨⟨A41, c41, rfl, hr41, hnil41, hc41⟩, hb⟩
      have HBq := Lib.hid (HB.out.trans (hb.mono HB.out.size))
      clear HB
      have HB := HBq
      clear HBq
      have T0q := Lib.hid (T0.out.next hb)
      clear T0
      have T0 := T0q
      clear T0q
      have HHq := Lib.hid (HH.out.next hb)
      clear HH
      have HH := HHq
      clear HHq
      have BXq := Lib.hid (BX.out.next hb)
      clear BX
      have BX := BXq
      clear BXq
      clear hb
      clear hr41 hnil41 hc41
      have q0 := BX.out.c0
      have q1 := BX.out.c1
      have q2 := BX.out.c2
      have q3 := BX.out.c3
      go_wp2_with fail
      refine (h10_add H T0.out F0.out HH.out hmm ET.out EE.out).mono ?_
      rintro e w7 ⟨⟨A31, c31, rfl, hr31, hn31, hc31⟩, hb⟩
      have HBq := Lib.hid (HB.out.trans (hb.mono HB.out.size))
      clear HB
      have HB := HBq
      clear HBq
      have T0q := Lib.hid (T0.out.next hb)
      clear T0
      have T0 := T0q
      clear T0q
      have HHq := Lib.hid (HH.out.next hb)
      clear HH
      have HH := HHq
      clear HHq
      have BXq := Lib.hid (BX.out.next hb)
      clear BX
      have BX := BXq
      clear BXq
      clear hb
      clear hr31 hn31 hc31
      clear q0 q1 q2 q3
      have q0 := BX.out.c0
      have q1 := BX.out.c1
      have q2 := BX.out.c2
      have q3 := BX.out.c3
      go_wp2_with fail
      refine (h10_get H T0.out F0.out EX.out EG.out).mono ?_
      rintro e w8 ⟨⟨A32, m32, c32, rfl, hh32⟩, hb⟩
      have HBq := Lib.hid (HB.out.trans (hb.mono HB.out.size))
      clear HB
      have HB := HBq
      clear HBq
      have T0q := Lib.hid (T0.out.next hb)
      clear T0
      have T0 := T0q
      clear T0q
      have HHq := Lib.hid (HH.out.next hb)
      clear HH
      have HH := HHq
      clear HHq
      have BXq := Lib.hid (BX.out.next hb)
      clear BX
      have BX := BXq
      clear BXq
      clear hb
      clear hh32
      clear q0 q1 q2 q3
      have hb := Below.alloc (Below.refl w8.heap.size w8) (Nat.le_refl _) (.cells #[.int .i64 x.id, .slice A32 m32 c32, .int .i64 x.frm, .int .i64 x.to] 36)
      have HBq := Lib.hid (HB.out.trans (hb.mono HB.out.size))
      clear HB
      have HB := HBq
      clear HBq
      have T0q := Lib.hid (T0.out.next hb)
      clear T0
      have T0 := T0q
      clear T0q
      have HHq := Lib.hid (HH.out.next hb)
      clear HH
      have HH := HHq
      clear HHq
      have BXq := Lib.hid (BX.out.next hb)
      clear BX
      have BX := BXq
      clear BXq
      clear hb
      have q0 := BX.out.c0
      have q1 := BX.out.c1
      have q2 := BX.out.c2
      have q3 := BX.out.c3
      go_wp2_with fail
      refine (s_isSet HH.out.reads HH.out.few RR.out).mono ?_
      rintro e w9 ⟨rfl, hb⟩
      have HBq := Lib.hid (HB.out.trans (hb.mono HB.out.size))
      clear HB
      have HB := HBq
      clear HBq
      have T0q := Lib.hid (T0.out.next hb)
      clear T0
      have T0 := T0q
      clear T0q
      have HHq := Lib.hid (HH.out.next hb)
      clear HH
      have HH := HHq
      clear HHq
      have BXq := Lib.hid (BX.out.next hb)
      clear BX
      have BX := BXq
      clear BXq
      clear hb
      clear q0 q1 q2 q3
      have q0 := BX.out.c0
      have q1 := BX.out.c1
      have q2 := BX.out.c2
      have q3 := BX.out.c3
      go_wp2_with fail
      refine (time_b TF.out).mono ?_
      rintro e w10 ⟨rfl, hb⟩
      have HBq := Lib.hid (HB.out.trans (hb.mono HB.out.size))
      clear HB
      have HB := HBq
      clear HBq
      have T0q := Lib.hid (T0.out.next hb)
      clear T0
      have T0 := T0q
      clear T0q
      have HHq := Lib.hid (HH.out.next hb)
      clear HH
      have HH := HHq
      clear HHq
      have BXq := Lib.hid (BX.out.next hb)
      clear BX
      have BX := BXq
      clear BXq
      clear hb
      clear q0 q1 q2 q3
      have q0 := BX.out.c0
      have q1 := BX.out.c1
      have q2 := BX.out.c2
      have q3 := BX.out.c3
      go_wp2_with fail
      refine (time_b TO.out).mono ?_
      rintro e w11 ⟨rfl, hb⟩
      have HBq := Lib.hid (HB.out.trans (hb.mono HB.out.size))
      clear HB
      have HB := HBq
      clear HBq
      have T0q := Lib.hid (T0.out.next hb)
      clear T0
      have T0 := T0q
      clear T0q
      have HHq := Lib.hid (HH.out.next hb)
      clear HH
      have HH := HHq
      clear HHq
      have BXq := Lib.hid (BX.out.next hb)
      clear BX
      have BX := BXq
      clear BXq
      clear hb
      clear q0 q1 q2 q3
      have q0 := BX.out.c0
      have q1 := BX.out.c1
      have q2 := BX.out.c2
      have q3 := BX.out.c3
      go_wp2
      have HKEEP : Hid (∀ wx, Below w11.drew.heap.size w11.drew wx → wx.cell? ⟨w.heap.size, 0, none⟩ = some (.int .i64 h.id) ∧ wx.cell? ⟨w.heap.size, 1, none⟩ = some (.slice A2 m c2) ∧ wx.cell? ⟨w.heap.size, 2, none⟩ = some (.int .i64 h.frm) ∧ wx.cell? ⟨w.heap.size, 3, none⟩ = some (.int .i64 h.to)) := Lib.hid (fun wx hz' => by
        have hz := (bel_drew1 w11).trans (hz'.mono (bel_drew1 w11).size)
        exact ⟨keep_cell BX.out.lt BX.out.c0 hz, keep_cell BX.out.lt BX.out.c1 hz, keep_cell BX.out.lt BX.out.c2 hz, keep_cell BX.out.lt BX.out.c3 hz⟩)
      have hd := bel_drew1 w11
      have HBq := Lib.hid (HB.out.trans (hd.mono HB.out.size))
      clear HB
      have HB := HBq
      clear HBq
      have T0q := Lib.hid (T0.out.next hd)
      clear T0
      have T0 := T0q
      clear T0q
      have HHq := Lib.hid (HH.out.next hd)
      clear HH
      have HH := HHq
      clear HHq
      have BXq := Lib.hid (BX.out.next hd)
      clear BX
      have BX := BXq
      clear BXq
      clear hd
      have HY := Lib.hid (Below.refl w11.drew.heap.size w11.drew)
      go_region_held3 (fun w' => w'.cell? ⟨w.heap.size, 0, none⟩ = some (.int .i64 h.id) ∧ w'.cell? ⟨w.heap.size, 1, none⟩ = some (.slice A2 m c2) ∧ w'.cell? ⟨w.heap.size, 2, none⟩ = some (.int .i64 h.frm) ∧ w'.cell? ⟨w.heap.size, 3, none⟩ = some (.int .i64 h.to))
        (first | exact HKEEP.out _ (Below.refl _ _) | exact HKEEP.out _ HY.out | go_keep | fail)
        (first | (go_at_call 12; (with_reducible refine (h10_busy H T0.out F0.out EB.out).mono ?_); rintro e w12 ⟨⟨A33, c33, rfl, hr33, hnil33, hc33⟩, hb⟩; have HY := Lib.hid (HY.out.trans (hb.mono HY.out.size)); have HB := Lib.hid (HB.out.trans (hb.mono HB.out.size)); have T0 := Lib.hid (T0.out.next hb); have HH := Lib.hid (HH.out.next hb); have BX := Lib.hid (BX.out.next hb); have R9 := Lib.hid hr33; clear hb) | (go_at_call 24; (with_reducible refine (s_apart R9.out HH.out.reads (by have := FC.out; unfold maxLen; omega) HH.out.few EAP.out).mono ?_); rintro e w13 ⟨rfl, hb⟩; have HY := Lib.hid (HY.out.trans (hb.mono HY.out.size)); have HB := Lib.hid (HB.out.trans (hb.mono HB.out.size)); have T0 := Lib.hid (T0.out.next hb); have HH := Lib.hid (HH.out.next hb); have BX := Lib.hid (BX.out.next hb); have R9 := Lib.hid (R9.out.next hb); clear hb) | fail)
      clear HKEEP HY
      clear q0 q1 q2 q3
      go_wp2
      go_ret
      exact ⟨rfl, HB.out⟩

set_option maxRecDepth 100000 in
set_option maxHeartbeats 8000000 in
theorem heldApart_y7 (H : HeldOk) (A : Option Addr) (n c : Nat) (l : Tb) (t : Int) (A2 : Option Addr) (m c2 : Nat) (h : Hd) (w : World) (hl : TAsk w A n c l) (hh : HAsk w A2 m c2 h) (h0 : shortT l = true) (h60 : ¬ 60 < m) (hr : rightT l = true) (ht : timeB t = true) (ht2 : t < 4611686018427387904) (hy0 : 0 < m) (hy1 : rightB h.things = true) (hy2 : timeB h.frm = true) (hy3 : timeB h.to = true) (hy4 : h.frm < h.to) (hy5 : hasT l h.id = false) (hy6 : apartB (busyT l h.frm h.to) h.things = false) :
    Calls Try.prog 4 #[.slice A n c, .int .i64 t, .agg #[.int .i64 h.id, .slice A2 m c2, .int .i64 h.frm, .int .i64 h.to]] w fun e w' => e = .returned (.bool true) ∧ Below w.heap.size w w' := by
  obtain ⟨W, hW⟩ : ∃ W, W = w.alloc (hO h A2 m c2) := ⟨_, rfl⟩
  have BX : Hid (BoxH W w.heap.size h A2 m c2) := Lib.hid (by rw [hW]; exact boxH_new w h A2 m c2)
  have hb0 : Below w.heap.size w W := by rw [hW]; exact (Below.refl _ _).alloc (Nat.le_refl _) _
  have HB := Lib.hid hb0
  have T0 := Lib.hid (hl.next hb0)
  have HH := Lib.hid (hh.next hb0)
  have hm2 := hh.few
  unfold maxLen at hm2
  unfold hO at hW
  have HSB := Lib.hid (short_is h0)
  have HL := Lib.hid hl.reads.len
  have hn30 : n ≤ 30 := by rw [← HL.out]; exact HSB.out.1
  have E0 := Lib.hid h0
  have F0 := Lib.hid (short_few' h0)
  have h60d : decide ((60 : Int) < (m : Int)) = false := by simp; omega
  have hmm : m ≤ 100 := by omega
  have HML := Lib.hid hh.reads.1
  have TQ := Lib.hid ht
  have dt : decide (t < 4611686018427387904) = true := decide_eq_true ht2
  have htp : 0 ≤ t := by unfold timeB at ht; exact (of_decide_eq_true ht).1
  have BS0 := busy_sum hr t
  have FB0 := busy_len l t (t + 1)
  obtain ⟨rt, ert⟩ : ∃ r, busyT l t (t + 1) = r := ⟨_, rfl⟩
  rw [ert] at BS0 FB0
  have BS := Lib.hid BS0
  have FB := Lib.hid FB0
  have EBT := Lib.hid ert
  clear ht BS0 FB0 ert
  have hmt := may_times h
  rw [hh.reads.1] at hmt
  have d0 : decide ((0 : Int) < (m : Int)) = true := by simp; omega
  have d0' : decide (0 < m) = true := by simp; omega
  rw [d0'] at hmt
  rw [hy1] at hmt
  have RR := Lib.hid hy1
  rw [hy2] at hmt
  have TF := Lib.hid hy2
  rw [hy3] at hmt
  have TO := Lib.hid hy3
  have d4 : decide (h.frm < h.to) = true := decide_eq_true hy4
  rw [d4] at hmt
  have hE0 := addE_apart hr hmt hy5 HSB.out.1
  rw [hy6] at hE0
  obtain ⟨er, hE⟩ : ∃ e, addE l h = e := ⟨_, rfl⟩
  rw [hE] at hE0
  have eg : gotT l h.id = false := by rw [got_is hr, hy5]
  have EG := Lib.hid eg
  have FC0 := busy_len l h.frm h.to
  obtain ⟨rb, eb⟩ : ∃ r, busyT l h.frm h.to = r := ⟨_, rfl⟩
  rw [eb] at FC0 hy6
  have FC := Lib.hid FC0
  have EB := Lib.hid eb
  have EAP := Lib.hid hy6
  clear FC0 eb hy6
  obtain ⟨lt, et⟩ : ∃ r, addT l h = r := ⟨_, rfl⟩
  obtain ⟨x, ex⟩ : ∃ r, getT l h.id = r := ⟨_, rfl⟩
  have ET := Lib.hid et
  have EX := Lib.hid ex
  have EE := Lib.hid hE
  have RT0 := Lib.hid hr
  clear hb0 hl hh h0 h60 hr hmt et ex hE eg hy0 hy1 hy2 hy3 hy4 hy5
  go_enter Try.func4, Try.ntmps4
  go_wp2_with fail
  rw [← hW]
  refine (awake10_any H _).mono ?_
  rintro e w1 ⟨rfl, hb⟩
  have HBq := Lib.hid (HB.out.trans (hb.mono HB.out.size))
  clear HB
  have HB := HBq
  clear HBq
  have T0q := Lib.hid (T0.out.next hb)
  clear T0
  have T0 := T0q
  clear T0q
  have HHq := Lib.hid (HH.out.next hb)
  clear HH
  have HH := HHq
  clear HHq
  have BXq := Lib.hid (BX.out.next hb)
  clear BX
  have BX := BXq
  clear BXq
  clear hb
  clear hW
  go_wp2_with fail
  refine (short_b T0.out E0.out).mono ?_
  rintro e w2 ⟨rfl, hb⟩
  have HBq := Lib.hid (HB.out.trans (hb.mono HB.out.size))
  clear HB
  have HB := HBq
  clear HBq
  have T0q := Lib.hid (T0.out.next hb)
  clear T0
  have T0 := T0q
  clear T0q
  have HHq := Lib.hid (HH.out.next hb)
  clear HH
  have HH := HHq
  clear HHq
  have BXq := Lib.hid (BX.out.next hb)
  clear BX
  have BX := BXq
  clear BXq
  clear hb
  have q0 := BX.out.c0
  have q1 := BX.out.c1
  have q2 := BX.out.c2
  have q3 := BX.out.c3
  go_wp2_with fail
  refine (h10_right H T0.out F0.out RT0.out).mono ?_
  rintro e w3 ⟨rfl, hb⟩
  have HBq := Lib.hid (HB.out.trans (hb.mono HB.out.size))
  clear HB
  have HB := HBq
  clear HBq
  have T0q := Lib.hid (T0.out.next hb)
  clear T0
  have T0 := T0q
  clear T0q
  have HHq := Lib.hid (HH.out.next hb)
  clear HH
  have HH := HHq
  clear HHq
  have BXq := Lib.hid (BX.out.next hb)
  clear BX
  have BX := BXq
  clear BXq
  clear hb
  clear q0 q1 q2 q3
  go_wp2_with fail
  refine (time_b TQ.out).mono ?_
  rintro e w4 ⟨rfl, hb⟩
  have HBq := Lib.hid (HB.out.trans (hb.mono HB.out.size))
  clear HB
  have HB := HBq
  clear HBq
  have T0q := Lib.hid (T0.out.next hb)
  clear T0
  have T0 := T0q
  clear T0q
  have HHq := Lib.hid (HH.out.next hb)
  clear HH
  have HH := HHq
  clear HHq
  have BXq := Lib.hid (BX.out.next hb)
  clear BX
  have BX := BXq
  clear BXq
  clear hb
  go_wp2
  go_loopw [7, 8] (fun sv kv wr => ∃ k : Nat, k ≤ n ∧ kv = .int .i64 k ∧ sv = .int .i64 (sumN l t k) ∧ Below w4.heap.size w4 wr) (fun _ kv _ => n - (intOf kv).toNat)
  case atStart => exact ⟨0, Nat.zero_le _, rfl, by simp [sumN], Below.refl _ _⟩
  case round =>
    obtain ⟨k, hk, rfl, rfl, hb⟩ := hrel
    have HR0 := Lib.hid hb
    have HBq := Lib.hid (HB.out.trans (hb.mono HB.out.size))
    clear HB
    have HB := HBq
    clear HBq
    have T0q := Lib.hid (T0.out.next hb)
    clear T0
    have T0 := T0q
    clear T0q
    have HHq := Lib.hid (HH.out.next hb)
    clear HH
    have HH := HHq
    clear HHq
    have BXq := Lib.hid (BX.out.next hb)
    clear BX
    have BX := BXq
    clear BXq
    clear hb
    have HR1 := Lib.hid HR0.out
    clear HR0
    by_cases hlt : k < n
    · have hkl : k < l.length := by rw [HL.out]; exact hlt
      have hsf := sumN_few HSB.out t (k := k) (by omega)
      have hx60 := HSB.out.2 _ (getD_in hkl)
      have hsum := fun x (hx : l.getD k hd0 = x) => sumN_at t hkl hx
      obtain ⟨b, off, A8, m8, c8, rfl, hbl, z0, z1, z2, z3, hx⟩ := RT.one T0.out.reads hlt
      have hm8 := hx.reads.1
      obtain ⟨x, hxx⟩ : ∃ x, l.getD k hd0 = x := ⟨_, rfl⟩
      have hs1 := hsum x hxx
      rw [hxx] at z0 z2 z3 hx60 hm8
      obtain ⟨s, hs⟩ : ∃ s, sumN l t k = s := ⟨_, rfl⟩
      rw [hs] at hs1 hsf
      rw [hs]
      have Z1 := Lib.hid (CellK.mk (p := ⟨b, off + k * 4 + 1, none⟩) hbl z1)
      rw [hm8] at hx60
      cases hmz : meetsZ x.frm x.to t (t + 1) with
      | true =>
        have ME := Lib.hid hmz
        rw [hmz, if_pos rfl, hm8] at hs1
        have HS := Lib.hid hs1
        clear hx hxx hs hs1 hmz hsum hm8 z0 z1 hkl
        go_wp2
        have zc0 : ∀ p : Later wr, p.now.cell? ⟨b, off + k * 4 + 2, none⟩ = some (.int .i64 x.frm) := fun _ => Later.cell hbl z2
        have zc1 : ∀ p : Later wr, p.now.cell? ⟨b, off + k * 4 + 3, none⟩ = some (.int .i64 x.to) := fun _ => Later.cell hbl z3
        refine wp_region_later (by kernel_rfl) (by kernel_rfl) ?_
        repeat (first | go_big_quiet_skip | (go_big_quiet_want; go_big_quiet_op; first | go_big_quiet_on | (apply Exists.intro; refine ⟨fun pz => ?_, ?_⟩; (first | (go_at_call 20; exact Calls.later_of (meets_any ME.out)) | fail); go_big_quiet_on)))
        refine wpQuiet_nil ?_
        intro _ hw'
        obtain ⟨pz, rfl⟩ := hw'
        obtain ⟨w5, hb⟩ := pz
        try dsimp only
        clear zc0 zc1
        have HBq := Lib.hid (HB.out.trans (hb.mono HB.out.size))
        clear HB
        have HB := HBq
        clear HBq
        have HR1q := Lib.hid (HR1.out.trans (hb.mono HR1.out.size))
        clear HR1
        have HR1 := HR1q
        clear HR1q
        have T0q := Lib.hid (T0.out.next hb)
        clear T0
        have T0 := T0q
        clear T0q
        have HHq := Lib.hid (HH.out.next hb)
        clear HH
        have HH := HHq
        clear HHq
        have BXq := Lib.hid (BX.out.next hb)
        clear BX
        have BX := BXq
        clear BXq
        have Z1q := Lib.hid (Z1.out.next hb)
        clear Z1
        have Z1 := Z1q
        clear Z1q
        clear hb
        clear z2 z3 hbl
        have z1 := Z1.out.at'
        go_wp2
        go_roundw
        case rel => exact ⟨k + 1, by omega, by go_num, (by rw [HS.out]; go_num), HR1.out⟩
        case measure => simp [intOf]; omega
      | false =>
        have ME := Lib.hid hmz
        rw [hmz, if_neg (by simp)] at hs1
        have HS := Lib.hid hs1
        clear hx hxx hs hs1 hmz hsum hm8 z0 z1 hkl
        go_wp2
        have zc0 : ∀ p : Later wr, p.now.cell? ⟨b, off + k * 4 + 2, none⟩ = some (.int .i64 x.frm) := fun _ => Later.cell hbl z2
        have zc1 : ∀ p : Later wr, p.now.cell? ⟨b, off + k * 4 + 3, none⟩ = some (.int .i64 x.to) := fun _ => Later.cell hbl z3
        refine wp_region_later (by kernel_rfl) (by kernel_rfl) ?_
        repeat (first | go_big_quiet_skip | (go_big_quiet_want; go_big_quiet_op; first | go_big_quiet_on | (apply Exists.intro; refine ⟨fun pz => ?_, ?_⟩; (first | (go_at_call 20; exact Calls.later_of (meets_any ME.out)) | fail); go_big_quiet_on)))
        refine wpQuiet_nil ?_
        intro _ hw'
        obtain ⟨pz, rfl⟩ := hw'
        obtain ⟨w5, hb⟩ := pz
        try dsimp only
        clear zc0 zc1
        have HBq := Lib.hid (HB.out.trans (hb.mono HB.out.size))
        clear HB
        have HB := HBq
        clear HBq
        have HR1q := Lib.hid (HR1.out.trans (hb.mono HR1.out.size))
        clear HR1
        have HR1 := HR1q
        clear HR1q
        have T0q := Lib.hid (T0.out.next hb)
        clear T0
        have T0 := T0q
        clear T0q
        have HHq := Lib.hid (HH.out.next hb)
        clear HH
        have HH := HHq
        clear HHq
        have BXq := Lib.hid (BX.out.next hb)
        clear BX
        have BX := BXq
        clear BXq
        have Z1q := Lib.hid (Z1.out.next hb)
        clear Z1
        have Z1 := Z1q
        clear Z1q
        clear hb
        clear z2 z3 hbl
        go_wp2
        go_roundw
        case rel => exact ⟨k + 1, by omega, by go_num, (by rw [HS.out]; simp), HR1.out⟩
        case measure => simp [intOf]; omega
    · have hkn : k = n := by omega
      have hsn : sumN l t k = rt.length := by rw [hkn, ← HL.out]; exact BS.out.symm
      have hrt := FB.out
      rw [hsn]
      clear hsn
      go_wp2_with fail
      refine (h10_busy H T0.out F0.out EBT.out).mono ?_
      rintro e w6 ⟨⟨A41, c41, rfl, hr41, hnil41, hc41⟩, hb⟩
      have HBq := Lib.hid (HB.out.trans (hb.mono HB.out.size))
      clear HB
      have HB := HBq
      clear HBq
      have T0q := Lib.hid (T0.out.next hb)
      clear T0
      have T0 := T0q
      clear T0q
      have HHq := Lib.hid (HH.out.next hb)
      clear HH
      have HH := HHq
      clear HHq
      have BXq := Lib.hid (BX.out.next hb)
      clear BX
      have BX := BXq
      clear BXq
      clear hb
      clear hr41 hnil41 hc41
      have q0 := BX.out.c0
      have q1 := BX.out.c1
      have q2 := BX.out.c2
      have q3 := BX.out.c3
      go_wp2_with fail
      refine (h10_add H T0.out F0.out HH.out hmm ET.out EE.out).mono ?_
      rintro e w7 ⟨⟨A31, c31, rfl, hr31, hn31, hc31⟩, hb⟩
      have HBq := Lib.hid (HB.out.trans (hb.mono HB.out.size))
      clear HB
      have HB := HBq
      clear HBq
      have T0q := Lib.hid (T0.out.next hb)
      clear T0
      have T0 := T0q
      clear T0q
      have HHq := Lib.hid (HH.out.next hb)
      clear HH
      have HH := HHq
      clear HHq
      have BXq := Lib.hid (BX.out.next hb)
      clear BX
      have BX := BXq
      clear BXq
      clear hb
      clear hr31 hn31 hc31
      clear q0 q1 q2 q3
      have q0 := BX.out.c0
      have q1 := BX.out.c1
      have q2 := BX.out.c2
      have q3 := BX.out.c3
      go_wp2_with fail
      refine (h10_get H T0.out F0.out EX.out EG.out).mono ?_
      rintro e w8 ⟨⟨A32, m32, c32, rfl, hh32⟩, hb⟩
      have HBq := Lib.hid (HB.out.trans (hb.mono HB.out.size))
      clear HB
      have HB := HBq
      clear HBq
      have T0q := Lib.hid (T0.out.next hb)
      clear T0
      have T0 := T0q
      clear T0q
      have HHq := Lib.hid (HH.out.next hb)
      clear HH
      have HH := HHq
      clear HHq
      have BXq := Lib.hid (BX.out.next hb)
      clear BX
      have BX := BXq
      clear BXq
      clear hb
      clear hh32
      clear q0 q1 q2 q3
      have hb := Below.alloc (Below.refl w8.heap.size w8) (Nat.le_refl _) (.cells #[.int .i64 x.id, .slice A32 m32 c32, .int .i64 x.frm, .int .i64 x.to] 36)
      have HBq := Lib.hid (HB.out.trans (hb.mono HB.out.size))
      clear HB
      have HB := HBq
      clear HBq
      have T0q := Lib.hid (T0.out.next hb)
      clear T0
      have T0 := T0q
      clear T0q
      have HHq := Lib.hid (HH.out.next hb)
      clear HH
      have HH := HHq
      clear HHq
      have BXq := Lib.hid (BX.out.next hb)
      clear BX
      have BX := BXq
      clear BXq
      clear hb
      have q0 := BX.out.c0
      have q1 := BX.out.c1
      have q2 := BX.out.c2
      have q3 := BX.out.c3
      go_wp2_with fail
      refine (s_isSet HH.out.reads HH.out.few RR.out).mono ?_
      rintro e w9 ⟨rfl, hb⟩
      have HBq := Lib.hid (HB.out.trans (hb.mono HB.out.size))
      clear HB
      have HB := HBq
      clear HBq
      have T0q := Lib.hid (T0.out.next hb)
      clear T0
      have T0 := T0q
      clear T0q
      have HHq := Lib.hid (HH.out.next hb)
      clear HH
      have HH := HHq
      clear HHq
      have BXq := Lib.hid (BX.out.next hb)
      clear BX
      have BX := BXq
      clear BXq
      clear hb
      clear q0 q1 q2 q3
      have q0 := BX.out.c0
      have q1 := BX.out.c1
      have q2 := BX.out.c2
      have q3 := BX.out.c3
      go_wp2_with fail
      refine (time_b TF.out).mono ?_
      rintro e w10 ⟨rfl, hb⟩
      have HBq := Lib.hid (HB.out.trans (hb.mono HB.out.size))
      clear HB
      have HB := HBq
      clear HBq
      have T0q := Lib.hid (T0.out.next hb)
      clear T0
      have T0 := T0q
      clear T0q
      have HHq := Lib.hid (HH.out.next hb)
      clear HH
      have HH := HHq
      clear HHq
      have BXq := Lib.hid (BX.out.next hb)
      clear BX
      have BX := BXq
      clear BXq
      clear hb
      clear q0 q1 q2 q3
      have q0 := BX.out.c0
      have q1 := BX.out.c1
      have q2 := BX.out.c2
      have q3 := BX.out.c3
      go_wp2_with fail
      refine (time_b TO.out).mono ?_
      rintro e w11 ⟨rfl, hb⟩
      have HBq := Lib.hid (HB.out.trans (hb.mono HB.out.size))
      clear HB
      have HB := HBq
      clear HBq
      have T0q := Lib.hid (T0.out.next hb)
      clear T0
      have T0 := T0q
      clear T0q
      have HHq := Lib.hid (HH.out.next hb)
      clear HH
      have HH := HHq
      clear HHq
      have BXq := Lib.hid (BX.out.next hb)
      clear BX
      have BX := BXq
      clear BXq
      clear hb
      clear q0 q1 q2 q3
      have q0 := BX.out.c0
      have q1 := BX.out.c1
      have q2 := BX.out.c2
      have q3 := BX.out.c3
      go_wp2
      have HKEEP : Hid (∀ wx, Below w11.drew.heap.size w11.drew wx → wx.cell? ⟨w.heap.size, 0, none⟩ = some (.int .i64 h.id) ∧ wx.cell? ⟨w.heap.size, 1, none⟩ = some (.slice A2 m c2) ∧ wx.cell? ⟨w.heap.size, 2, none⟩ = some (.int .i64 h.frm) ∧ wx.cell? ⟨w.heap.size, 3, none⟩ = some (.int .i64 h.to)) := Lib.hid (fun wx hz' => by
        have hz := (bel_drew1 w11).trans (hz'.mono (bel_drew1 w11).size)
        exact ⟨keep_cell BX.out.lt BX.out.c0 hz, keep_cell BX.out.lt BX.out.c1 hz, keep_cell BX.out.lt BX.out.c2 hz, keep_cell BX.out.lt BX.out.c3 hz⟩)
      have hd := bel_drew1 w11
      have HBq := Lib.hid (HB.out.trans (hd.mono HB.out.size))
      clear HB
      have HB := HBq
      clear HBq
      have T0q := Lib.hid (T0.out.next hd)
      clear T0
      have T0 := T0q
      clear T0q
      have HHq := Lib.hid (HH.out.next hd)
      clear HH
      have HH := HHq
      clear HHq
      have BXq := Lib.hid (BX.out.next hd)
      clear BX
      have BX := BXq
      clear BXq
      clear hd
      have HY := Lib.hid (Below.refl w11.drew.heap.size w11.drew)
      go_region_held3 (fun w' => w'.cell? ⟨w.heap.size, 0, none⟩ = some (.int .i64 h.id) ∧ w'.cell? ⟨w.heap.size, 1, none⟩ = some (.slice A2 m c2) ∧ w'.cell? ⟨w.heap.size, 2, none⟩ = some (.int .i64 h.frm) ∧ w'.cell? ⟨w.heap.size, 3, none⟩ = some (.int .i64 h.to))
        (first | exact HKEEP.out _ (Below.refl _ _) | exact HKEEP.out _ HY.out | go_keep | fail)
        (first | (go_at_call 12; (with_reducible refine (h10_busy H T0.out F0.out EB.out).mono ?_); rintro e w12 ⟨⟨A33, c33, rfl, hr33, hnil33, hc33⟩, hb⟩; have HY := Lib.hid (HY.out.trans (hb.mono HY.out.size)); have HB := Lib.hid (HB.out.trans (hb.mono HB.out.size)); have T0 := Lib.hid (T0.out.next hb); have HH := Lib.hid (HH.out.next hb); have BX := Lib.hid (BX.out.next hb); have R9 := Lib.hid hr33; clear hb) | (go_at_call 24; (with_reducible refine (s_apart R9.out HH.out.reads (by have := FC.out; unfold maxLen; omega) HH.out.few EAP.out).mono ?_); rintro e w13 ⟨rfl, hb⟩; have HY := Lib.hid (HY.out.trans (hb.mono HY.out.size)); have HB := Lib.hid (HB.out.trans (hb.mono HB.out.size)); have T0 := Lib.hid (T0.out.next hb); have HH := Lib.hid (HH.out.next hb); have BX := Lib.hid (BX.out.next hb); have R9 := Lib.hid (R9.out.next hb); clear hb) | fail)
      clear HKEEP HY
      clear q0 q1 q2 q3
      go_wp2
      go_ret
      exact ⟨rfl, HB.out⟩


theorem heldApart_walk (H : HeldOk) (A : Option Addr) (n c : Nat) (l : Tb) (t : Int) (A2 : Option Addr) (m c2 : Nat) (h : Hd) (w : World) (hl : TAsk w A n c l) (hh : HAsk w A2 m c2 h) : Calls Try.prog 4 #[.slice A n c, .int .i64 t, .agg #[.int .i64 h.id, .slice A2 m c2, .int .i64 h.frm, .int .i64 h.to]] w fun e w' => e = .returned (.bool true) ∧ Below w.heap.size w w' := by
  cases h0 : shortT l with
  | false => exact heldApart_l0 H A n c l t A2 m c2 h w hl hh h0
  | true =>
  by_cases h60 : 60 < m
  · exact heldApart_l1 H A n c l t A2 m c2 h w hl hh h0 h60
  cases hr : rightT l with
  | false => exact heldApart_l2 H A n c l t A2 m c2 h w hl hh h0 h60 hr
  | true =>
  cases ht : timeB t with
  | false =>
    by_cases hy0 : m = 0
    · exact heldApart_n10 H A n c l t A2 m c2 h w hl hh h0 h60 hr ht hy0
    have hy0 : 0 < m := by omega
    cases hy1 : rightB h.things with
    | false => exact heldApart_n11 H A n c l t A2 m c2 h w hl hh h0 h60 hr ht hy0 hy1
    | true =>
    cases hy2 : timeB h.frm with
    | false => exact heldApart_n12 H A n c l t A2 m c2 h w hl hh h0 h60 hr ht hy0 hy1 hy2
    | true =>
    cases hy3 : timeB h.to with
    | false => exact heldApart_n13 H A n c l t A2 m c2 h w hl hh h0 h60 hr ht hy0 hy1 hy2 hy3
    | true =>
    by_cases hy4 : h.frm < h.to
    case neg => exact heldApart_n14 H A n c l t A2 m c2 h w hl hh h0 h60 hr ht hy0 hy1 hy2 hy3 hy4
    cases hy5 : hasT l h.id with
    | true => exact heldApart_n15 H A n c l t A2 m c2 h w hl hh h0 h60 hr ht hy0 hy1 hy2 hy3 hy4 hy5
    | false =>
    cases hy6 : apartB (busyT l h.frm h.to) h.things with
    | true => exact heldApart_n16 H A n c l t A2 m c2 h w hl hh h0 h60 hr ht hy0 hy1 hy2 hy3 hy4 hy5 hy6
    | false => exact heldApart_n17 H A n c l t A2 m c2 h w hl hh h0 h60 hr ht hy0 hy1 hy2 hy3 hy4 hy5 hy6
  | true =>
  by_cases ht2 : t < 4611686018427387904
  · by_cases hy0 : m = 0
    · exact heldApart_y0 H A n c l t A2 m c2 h w hl hh h0 h60 hr ht ht2 hy0
    have hy0 : 0 < m := by omega
    cases hy1 : rightB h.things with
    | false => exact heldApart_y1 H A n c l t A2 m c2 h w hl hh h0 h60 hr ht ht2 hy0 hy1
    | true =>
    cases hy2 : timeB h.frm with
    | false => exact heldApart_y2 H A n c l t A2 m c2 h w hl hh h0 h60 hr ht ht2 hy0 hy1 hy2
    | true =>
    cases hy3 : timeB h.to with
    | false => exact heldApart_y3 H A n c l t A2 m c2 h w hl hh h0 h60 hr ht ht2 hy0 hy1 hy2 hy3
    | true =>
    by_cases hy4 : h.frm < h.to
    case neg => exact heldApart_y4 H A n c l t A2 m c2 h w hl hh h0 h60 hr ht ht2 hy0 hy1 hy2 hy3 hy4
    cases hy5 : hasT l h.id with
    | true => exact heldApart_y5 H A n c l t A2 m c2 h w hl hh h0 h60 hr ht ht2 hy0 hy1 hy2 hy3 hy4 hy5
    | false =>
    cases hy6 : apartB (busyT l h.frm h.to) h.things with
    | true => exact heldApart_y6 H A n c l t A2 m c2 h w hl hh h0 h60 hr ht ht2 hy0 hy1 hy2 hy3 hy4 hy5 hy6
    | false => exact heldApart_y7 H A n c l t A2 m c2 h w hl hh h0 h60 hr ht ht2 hy0 hy1 hy2 hy3 hy4 hy5 hy6
  · by_cases hy0 : m = 0
    · exact heldApart_n20 H A n c l t A2 m c2 h w hl hh h0 h60 hr ht ht2 hy0
    have hy0 : 0 < m := by omega
    cases hy1 : rightB h.things with
    | false => exact heldApart_n21 H A n c l t A2 m c2 h w hl hh h0 h60 hr ht ht2 hy0 hy1
    | true =>
    cases hy2 : timeB h.frm with
    | false => exact heldApart_n22 H A n c l t A2 m c2 h w hl hh h0 h60 hr ht ht2 hy0 hy1 hy2
    | true =>
    cases hy3 : timeB h.to with
    | false => exact heldApart_n23 H A n c l t A2 m c2 h w hl hh h0 h60 hr ht ht2 hy0 hy1 hy2 hy3
    | true =>
    by_cases hy4 : h.frm < h.to
    case neg => exact heldApart_n24 H A n c l t A2 m c2 h w hl hh h0 h60 hr ht ht2 hy0 hy1 hy2 hy3 hy4
    cases hy5 : hasT l h.id with
    | true => exact heldApart_n25 H A n c l t A2 m c2 h w hl hh h0 h60 hr ht ht2 hy0 hy1 hy2 hy3 hy4 hy5
    | false =>
    cases hy6 : apartB (busyT l h.frm h.to) h.things with
    | true => exact heldApart_n26 H A n c l t A2 m c2 h w hl hh h0 h60 hr ht ht2 hy0 hy1 hy2 hy3 hy4 hy5 hy6
    | false => exact heldApart_n27 H A n c l t A2 m c2 h w hl hh h0 h60 hr ht ht2 hy0 hy1 hy2 hy3 hy4 hy5 hy6

end Go.Proofs.Ytbiofikijehlcaa
