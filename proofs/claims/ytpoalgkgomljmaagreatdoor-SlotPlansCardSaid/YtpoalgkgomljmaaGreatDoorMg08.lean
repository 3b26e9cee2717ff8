/- The reference's May and clash of layer 10. Written by gen/gen_heldref2.py. The reference's Right and At of layer 10. Written by gen/gen_heldref3.py. -/
import Derived.Test.YtpoalgkgomljmaaGreatDoorMg07
namespace Go.Proofs.YtpoalgkgomljmaaGreatDoor
open Go.RowKit

set_option maxRecDepth 100000 in
set_option maxHeartbeats 8000000 in
theorem refMay_a (A : Option Addr) (m c : Nat) (h : Hd) (w : World) (hh : HAsk w A m c h) (h0 : ¬ 0 < m) :
    Calls Tryz.prog 57 #[.agg #[.int .i64 h.id, .slice A m c, .int .i64 h.frm, .int .i64 h.to]] w fun e w' => e = .returned (.bool false) ∧ Below w.heap.size w w' := by
  obtain ⟨W, hW⟩ : ∃ W, W = w.alloc (hO h A m c) := ⟨_, rfl⟩
  have BX : Hid (BoxH W w.heap.size h A m c) := Lib.hid (by rw [hW]; exact boxH_new w h A m c)
  have hb0 : Below w.heap.size w W := by rw [hW]; exact (Below.refl _ _).alloc (Nat.le_refl _) _
  have HB := Lib.hid hb0
  have HH := Lib.hid (hh.next hb0)
  unfold hO at hW
  have d0 : decide (0 < m) = false := decide_eq_false h0
  clear hb0 hh
  have q0 := BX.out.c0
  have q1 := BX.out.c1
  have q2 := BX.out.c2
  have q3 := BX.out.c3
  go_enter Tryz.func57, Tryz.ntmps57
  go_wp2_with fail
  rw [← hW]
  clear hW
  go_wp2
  go_ret
  exact ⟨rfl, HB.out⟩
set_option maxRecDepth 100000 in
set_option maxHeartbeats 8000000 in
theorem refMayH_b (A : Option Addr) (m c : Nat) (h : Hd) (w : World) (hh : HAsk w A m c h) (h0 : 0 < m) (h1 : rightB h.things = false) :
    Calls Tryz.prog 57 #[.agg #[.int .i64 h.id, .slice A m c, .int .i64 h.frm, .int .i64 h.to]] w fun e w' => e = .returned (.bool false) ∧ Below w.heap.size w w' := by
  obtain ⟨W, hW⟩ : ∃ W, W = w.alloc (hO h A m c) := ⟨_, rfl⟩
  have BX : Hid (BoxH W w.heap.size h A m c) := Lib.hid (by rw [hW]; exact boxH_new w h A m c)
  have hb0 : Below w.heap.size w W := by rw [hW]; exact (Below.refl _ _).alloc (Nat.le_refl _) _
  have HB := Lib.hid hb0
  have HH := Lib.hid (hh.next hb0)
  unfold hO at hW
  have d0 : decide (0 < m) = true := decide_eq_true h0
  have H1 := Lib.hid h1
  clear hb0 hh h1
  have q0 := BX.out.c0
  have q1 := BX.out.c1
  have q2 := BX.out.c2
  have q3 := BX.out.c3
  go_enter Tryz.func57, Tryz.ntmps57
  go_wp2_with fail
  rw [← hW]
  clear hW
  refine (ri_isSet HH.out.reads HH.out.few H1.out).mono ?_
  rintro e w1 ⟨rfl, hb⟩
  have HB1 := Lib.hid (HB.out.trans (hb.mono HB.out.size))
  have BX1 := Lib.hid (BX.out.next hb)
  clear hb q0 q1 q2 q3
  have q0 := BX1.out.c0
  have q1 := BX1.out.c1
  have q2 := BX1.out.c2
  have q3 := BX1.out.c3
  go_wp2
  go_ret
  exact ⟨rfl, HB1.out⟩
set_option maxRecDepth 100000 in
set_option maxHeartbeats 8000000 in
theorem refMay_c (A : Option Addr) (m c : Nat) (h : Hd) (w : World) (hh : HAsk w A m c h) (h0 : 0 < m) (h1 : rightB h.things = true) (h2 : ¬ 0 ≤ h.frm) :
    Calls Tryz.prog 57 #[.agg #[.int .i64 h.id, .slice A m c, .int .i64 h.frm, .int .i64 h.to]] w fun e w' => e = .returned (.bool false) ∧ Below w.heap.size w w' := by
  obtain ⟨W, hW⟩ : ∃ W, W = w.alloc (hO h A m c) := ⟨_, rfl⟩
  have BX : Hid (BoxH W w.heap.size h A m c) := Lib.hid (by rw [hW]; exact boxH_new w h A m c)
  have hb0 : Below w.heap.size w W := by rw [hW]; exact (Below.refl _ _).alloc (Nat.le_refl _) _
  have HB := Lib.hid hb0
  have HH := Lib.hid (hh.next hb0)
  unfold hO at hW
  have d0 : decide (0 < m) = true := decide_eq_true h0
  have H1 := Lib.hid h1
  have d2 : decide ((0 : Int) ≤ h.frm) = false := decide_eq_false h2
  clear hb0 hh h1
  have q0 := BX.out.c0
  have q1 := BX.out.c1
  have q2 := BX.out.c2
  have q3 := BX.out.c3
  go_enter Tryz.func57, Tryz.ntmps57
  go_wp2_with fail
  rw [← hW]
  clear hW
  refine (ri_isSet HH.out.reads HH.out.few H1.out).mono ?_
  rintro e w1 ⟨rfl, hb⟩
  have HB1 := Lib.hid (HB.out.trans (hb.mono HB.out.size))
  have BX1 := Lib.hid (BX.out.next hb)
  clear hb q0 q1 q2 q3
  have q0 := BX1.out.c0
  have q1 := BX1.out.c1
  have q2 := BX1.out.c2
  have q3 := BX1.out.c3
  go_wp2
  go_ret
  exact ⟨rfl, HB1.out⟩
set_option maxRecDepth 100000 in
set_option maxHeartbeats 8000000 in
theorem refMay_d (A : Option Addr) (m c : Nat) (h : Hd) (w : World) (hh : HAsk w A m c h) (h0 : 0 < m) (h1 : rightB h.things = true) (h2 : 0 ≤ h.frm) (h3 : ¬ h.frm < h.to) :
    Calls Tryz.prog 57 #[.agg #[.int .i64 h.id, .slice A m c, .int .i64 h.frm, .int .i64 h.to]] w fun e w' => e = .returned (.bool false) ∧ Below w.heap.size w w' := by
  obtain ⟨W, hW⟩ : ∃ W, W = w.alloc (hO h A m c) := ⟨_, rfl⟩
  have BX : Hid (BoxH W w.heap.size h A m c) := Lib.hid (by rw [hW]; exact boxH_new w h A m c)
  have hb0 : Below w.heap.size w W := by rw [hW]; exact (Below.refl _ _).alloc (Nat.le_refl _) _
  have HB := Lib.hid hb0
  have HH := Lib.hid (hh.next hb0)
  unfold hO at hW
  have d0 : decide (0 < m) = true := decide_eq_true h0
  have H1 := Lib.hid h1
  have d2 : decide ((0 : Int) ≤ h.frm) = true := decide_eq_true h2
  have d3 : decide (h.frm < h.to) = false := decide_eq_false h3
  clear hb0 hh h1
  have q0 := BX.out.c0
  have q1 := BX.out.c1
  have q2 := BX.out.c2
  have q3 := BX.out.c3
  go_enter Tryz.func57, Tryz.ntmps57
  go_wp2_with fail
  rw [← hW]
  clear hW
  refine (ri_isSet HH.out.reads HH.out.few H1.out).mono ?_
  rintro e w1 ⟨rfl, hb⟩
  have HB1 := Lib.hid (HB.out.trans (hb.mono HB.out.size))
  have BX1 := Lib.hid (BX.out.next hb)
  clear hb q0 q1 q2 q3
  have q0 := BX1.out.c0
  have q1 := BX1.out.c1
  have q2 := BX1.out.c2
  have q3 := BX1.out.c3
  go_wp2
  go_ret
  exact ⟨rfl, HB1.out⟩
set_option maxRecDepth 100000 in
set_option maxHeartbeats 8000000 in
theorem refMay_e (A : Option Addr) (m c : Nat) (h : Hd) (w : World) (hh : HAsk w A m c h) (h0 : 0 < m) (h1 : rightB h.things = true) (h2 : 0 ≤ h.frm) (h3 : h.frm < h.to) (h4 : ¬ h.to ≤ 4611686018427387904) :
    Calls Tryz.prog 57 #[.agg #[.int .i64 h.id, .slice A m c, .int .i64 h.frm, .int .i64 h.to]] w fun e w' => e = .returned (.bool false) ∧ Below w.heap.size w w' := by
  obtain ⟨W, hW⟩ : ∃ W, W = w.alloc (hO h A m c) := ⟨_, rfl⟩
  have BX : Hid (BoxH W w.heap.size h A m c) := Lib.hid (by rw [hW]; exact boxH_new w h A m c)
  have hb0 : Below w.heap.size w W := by rw [hW]; exact (Below.refl _ _).alloc (Nat.le_refl _) _
  have HB := Lib.hid hb0
  have HH := Lib.hid (hh.next hb0)
  unfold hO at hW
  have d0 : decide (0 < m) = true := decide_eq_true h0
  have H1 := Lib.hid h1
  have d2 : decide ((0 : Int) ≤ h.frm) = true := decide_eq_true h2
  have d3 : decide (h.frm < h.to) = true := decide_eq_true h3
  have d4 : decide (h.to ≤ (4611686018427387904 : Int)) = false := decide_eq_false h4
  clear hb0 hh h1
  have q0 := BX.out.c0
  have q1 := BX.out.c1
  have q2 := BX.out.c2
  have q3 := BX.out.c3
  go_enter Tryz.func57, Tryz.ntmps57
  go_wp2_with fail
  rw [← hW]
  clear hW
  refine (ri_isSet HH.out.reads HH.out.few H1.out).mono ?_
  rintro e w1 ⟨rfl, hb⟩
  have HB1 := Lib.hid (HB.out.trans (hb.mono HB.out.size))
  have BX1 := Lib.hid (BX.out.next hb)
  clear hb q0 q1 q2 q3
  have q0 := BX1.out.c0
  have q1 := BX1.out.c1
  have q2 := BX1.out.c2
  have q3 := BX1.out.c3
  go_wp2
  go_ret
  exact ⟨rfl, HB1.out⟩
set_option maxRecDepth 100000 in
set_option maxHeartbeats 8000000 in
theorem refMay_f (A : Option Addr) (m c : Nat) (h : Hd) (w : World) (hh : HAsk w A m c h) (h0 : 0 < m) (h1 : rightB h.things = true) (h2 : 0 ≤ h.frm) (h3 : h.frm < h.to) (h4 : h.to ≤ 4611686018427387904) :
    Calls Tryz.prog 57 #[.agg #[.int .i64 h.id, .slice A m c, .int .i64 h.frm, .int .i64 h.to]] w fun e w' => e = .returned (.bool true) ∧ Below w.heap.size w w' := by
  obtain ⟨W, hW⟩ : ∃ W, W = w.alloc (hO h A m c) := ⟨_, rfl⟩
  have BX : Hid (BoxH W w.heap.size h A m c) := Lib.hid (by rw [hW]; exact boxH_new w h A m c)
  have hb0 : Below w.heap.size w W := by rw [hW]; exact (Below.refl _ _).alloc (Nat.le_refl _) _
  have HB := Lib.hid hb0
  have HH := Lib.hid (hh.next hb0)
  unfold hO at hW
  have d0 : decide (0 < m) = true := decide_eq_true h0
  have H1 := Lib.hid h1
  have d2 : decide ((0 : Int) ≤ h.frm) = true := decide_eq_true h2
  have d3 : decide (h.frm < h.to) = true := decide_eq_true h3
  have d4 : decide (h.to ≤ (4611686018427387904 : Int)) = true := decide_eq_true h4
  clear hb0 hh h1
  have q0 := BX.out.c0
  have q1 := BX.out.c1
  have q2 := BX.out.c2
  have q3 := BX.out.c3
  go_enter Tryz.func57, Tryz.ntmps57
  go_wp2_with fail
  rw [← hW]
  clear hW
  refine (ri_isSet HH.out.reads HH.out.few H1.out).mono ?_
  rintro e w1 ⟨rfl, hb⟩
  have HB1 := Lib.hid (HB.out.trans (hb.mono HB.out.size))
  have BX1 := Lib.hid (BX.out.next hb)
  clear hb q0 q1 q2 q3
  have q0 := BX1.out.c0
  have q1 := BX1.out.c1
  have q2 := BX1.out.c2
  have q3 := BX1.out.c3
  go_wp2
  go_ret
  exact ⟨rfl, HB1.out⟩
theorem refMayH_any (A : Option Addr) (m c : Nat) (h : Hd) (w : World) (hh : HAsk w A m c h) :
    Calls Tryz.prog 57 #[.agg #[.int .i64 h.id, .slice A m c, .int .i64 h.frm, .int .i64 h.to]] w fun e w' => e = .returned (.bool (mayH h)) ∧ Below w.heap.size w w' := by
  have hl := hh.reads.1
  by_cases h0 : 0 < m
  · cases h1 : rightB h.things with
    | false =>
      rw [show mayH h = false from decide_eq_false (fun e => by have := e.2.1; rw [h1] at this; cases this)]
      exact refMayH_b A m c h w hh h0 h1
    | true =>
      by_cases h2 : 0 ≤ h.frm
      · by_cases h3 : h.frm < h.to
        · by_cases h4 : h.to ≤ 4611686018427387904
          · rw [show mayH h = true from decide_eq_true ⟨by omega, h1, h2, h3, h4⟩]
            exact refMay_f A m c h w hh h0 h1 h2 h3 h4
          · rw [show mayH h = false from decide_eq_false (fun e => h4 e.2.2.2.2)]
            exact refMay_e A m c h w hh h0 h1 h2 h3 h4
        · rw [show mayH h = false from decide_eq_false (fun e => h3 e.2.2.2.1)]
          exact refMay_d A m c h w hh h0 h1 h2 h3
      · rw [show mayH h = false from decide_eq_false (fun e => h2 e.2.2.1)]
        exact refMay_c A m c h w hh h0 h1 h2
  · rw [show mayH h = false from decide_eq_false (fun e => h0 (by have := e.1; omega))]
    exact refMay_a A m c h w hh h0
theorem refMay_b' {A : Option Addr} {m c : Nat} {h : Hd} {w : World} {v : Bool} (hh : HAsk w A m c h) (e : mayH h = v) :
    Calls Tryz.prog 57 #[.agg #[.int .i64 h.id, .slice A m c, .int .i64 h.frm, .int .i64 h.to]] w fun e w' => e = .returned (.bool v) ∧ Below w.heap.size w w' := by
  subst e; exact refMayH_any A m c h w hh

set_option maxRecDepth 100000 in
set_option maxHeartbeats 8000000 in
theorem refClash_n (A : Option Addr) (m c : Nat) (A2 : Option Addr) (m2 c2 : Nat) (a b : Hd) (w : World) (ha : HAsk w A m c a) (hb : HAsk w A2 m2 c2 b) (h1 : meetsZ a.frm a.to b.frm b.to = false) :
    Calls Tryz.prog 58 #[.agg #[.int .i64 a.id, .slice A m c, .int .i64 a.frm, .int .i64 a.to], .agg #[.int .i64 b.id, .slice A2 m2 c2, .int .i64 b.frm, .int .i64 b.to]] w fun e w' => e = .returned (.bool false) ∧ Below w.heap.size w w' := by
  obtain ⟨W, hW⟩ : ∃ W, W = (w.alloc (hO a A m c)).alloc (hO b A2 m2 c2) := ⟨_, rfl⟩
  have BX : Hid (BoxH W w.heap.size a A m c) := Lib.hid (by rw [hW]; exact (boxH_new w a A m c).next ((Below.refl _ _).alloc (Nat.le_refl _) _))
  have BY : Hid (BoxH W (w.heap.size + 1) b A2 m2 c2) := Lib.hid (by
    have := boxH_new (w.alloc (hO a A m c)) b A2 m2 c2
    rw [show (w.alloc (hO a A m c)).heap.size = w.heap.size + 1 by simp] at this
    rw [hW]; exact this)
  have hb0 : Below w.heap.size w W := by rw [hW]; exact ((Below.refl _ _).alloc (Nat.le_refl _) _).alloc (by simp) _
  have HB := Lib.hid hb0
  have HA := Lib.hid (ha.next hb0)
  have HA2 := Lib.hid (hb.next hb0)
  unfold hO at hW
  have E1 := Lib.hid h1
  clear hb0 ha hb h1
  have p0 := BX.out.c0
  have p1 := BX.out.c1
  have p2 := BX.out.c2
  have p3 := BX.out.c3
  have q0 := BY.out.c0
  have q1 := BY.out.c1
  have q2 := BY.out.c2
  have q3 := BY.out.c3
  go_enter Tryz.func58, Tryz.ntmps58
  go_wp2_with fail
  rw [← hW]
  clear hW
  refine (refMeets_b E1.out).mono ?_
  rintro e w1 ⟨rfl, hb⟩
  have HB1 := Lib.hid (HB.out.trans (hb.mono HB.out.size))
  have BX1 := Lib.hid (BX.out.next hb)
  have BY1 := Lib.hid (BY.out.next hb)
  have HA1 := Lib.hid (HA.out.next hb)
  have HA3 := Lib.hid (HA2.out.next hb)
  clear hb p0 p1 p2 p3 q0 q1 q2 q3
  go_wp2
  go_ret
  exact ⟨rfl, HB1.out⟩
set_option maxRecDepth 100000 in
set_option maxHeartbeats 8000000 in
theorem refClash_y (A : Option Addr) (m c : Nat) (A2 : Option Addr) (m2 c2 : Nat) (a b : Hd) (w : World) (ha : HAsk w A m c a) (hb : HAsk w A2 m2 c2 b) (hra : rightB a.things = true) (hrb : rightB b.things = true) (h1 : meetsZ a.frm a.to b.frm b.to = true) :
    Calls Tryz.prog 58 #[.agg #[.int .i64 a.id, .slice A m c, .int .i64 a.frm, .int .i64 a.to], .agg #[.int .i64 b.id, .slice A2 m2 c2, .int .i64 b.frm, .int .i64 b.to]] w fun e w' => e = .returned (.bool (touchB a.things b.things)) ∧ Below w.heap.size w w' := by
  obtain ⟨W, hW⟩ : ∃ W, W = (w.alloc (hO a A m c)).alloc (hO b A2 m2 c2) := ⟨_, rfl⟩
  have BX : Hid (BoxH W w.heap.size a A m c) := Lib.hid (by rw [hW]; exact (boxH_new w a A m c).next ((Below.refl _ _).alloc (Nat.le_refl _) _))
  have BY : Hid (BoxH W (w.heap.size + 1) b A2 m2 c2) := Lib.hid (by
    have := boxH_new (w.alloc (hO a A m c)) b A2 m2 c2
    rw [show (w.alloc (hO a A m c)).heap.size = w.heap.size + 1 by simp] at this
    rw [hW]; exact this)
  have hb0 : Below w.heap.size w W := by rw [hW]; exact ((Below.refl _ _).alloc (Nat.le_refl _) _).alloc (by simp) _
  have HB := Lib.hid hb0
  have HA := Lib.hid (ha.next hb0)
  have HA2 := Lib.hid (hb.next hb0)
  unfold hO at hW
  have E1 := Lib.hid h1
  have R1 := Lib.hid hra
  have R2 := Lib.hid hrb
  obtain ⟨v, hv⟩ : ∃ v, touchB a.things b.things = v := ⟨_, rfl⟩
  rw [hv]
  have EV := Lib.hid hv
  clear hra hrb hv
  clear hb0 ha hb h1
  have p0 := BX.out.c0
  have p1 := BX.out.c1
  have p2 := BX.out.c2
  have p3 := BX.out.c3
  have q0 := BY.out.c0
  have q1 := BY.out.c1
  have q2 := BY.out.c2
  have q3 := BY.out.c3
  go_enter Tryz.func58, Tryz.ntmps58
  go_wp2_with fail
  rw [← hW]
  clear hW
  refine (refMeets_b E1.out).mono ?_
  rintro e w1 ⟨rfl, hb⟩
  have HB1 := Lib.hid (HB.out.trans (hb.mono HB.out.size))
  have BX1 := Lib.hid (BX.out.next hb)
  have BY1 := Lib.hid (BY.out.next hb)
  have HA1 := Lib.hid (HA.out.next hb)
  have HA3 := Lib.hid (HA2.out.next hb)
  clear hb p0 p1 p2 p3 q0 q1 q2 q3
  have p0 := BX1.out.c0
  have p1 := BX1.out.c1
  have p2 := BX1.out.c2
  have p3 := BX1.out.c3
  have q0 := BY1.out.c0
  have q1 := BY1.out.c1
  have q2 := BY1.out.c2
  have q3 := BY1.out.c3
  have ht := refTouch_any _ _ c _ _ c2 _ _ w1 HA1.out.reads HA3.out.reads HA1.out.few HA3.out.few R1.out R2.out
  rw [EV.out] at ht
  have HT := Lib.hid ht
  clear ht
  go_wp2_with fail
  refine HT.out.mono ?_
  rintro e w2 ⟨rfl, hb⟩
  have HB2 := Lib.hid (HB1.out.trans (hb.mono HB1.out.size))
  clear hb
  go_wp2
  go_ret
  exact ⟨rfl, HB2.out⟩
theorem refClash_b {A : Option Addr} {m c : Nat} {A2 : Option Addr} {m2 c2 : Nat} {a b : Hd} {w : World} {v : Bool} (ha : HAsk w A m c a) (hb : HAsk w A2 m2 c2 b) (hra : rightB a.things = true) (hrb : rightB b.things = true) (e : clashH a b = v) :
    Calls Tryz.prog 58 #[.agg #[.int .i64 a.id, .slice A m c, .int .i64 a.frm, .int .i64 a.to], .agg #[.int .i64 b.id, .slice A2 m2 c2, .int .i64 b.frm, .int .i64 b.to]] w fun e w' => e = .returned (.bool v) ∧ Below w.heap.size w w' := by
  subst e
  unfold clashH
  cases h : meetsZ a.frm a.to b.frm b.to with
  | false => exact refClash_n A m c A2 m2 c2 a b w ha hb h
  | true => exact refClash_y A m c A2 m2 c2 a b w ha hb hra hrb h

end Go.Proofs.YtpoalgkgomljmaaGreatDoor

namespace Go.Proofs.YtpoalgkgomljmaaGreatDoor
open Go.RowKit

theorem keepc {w wx : World} {p : Addr} {v : Value} (hl : p.block < w.heap.size) (h : w.cell? p = some v) (hb : Below w.heap.size w wx) : wx.cell? p = some v := (hb.cell hl).trans h
/-- the first i of a table stand right -/
structure RPH (l : Tb) (i : Nat) : Prop where
  may : ∀ j, j < i → MayH (l.getD j hd0)
  row : ∀ j k, j < k → k < i → Ahead (l.getD j hd0) (l.getD k hd0)
theorem getD_hd {l : Tb} {i : Nat} (h : i < l.length) : l.getD i hd0 = l[i] := by rw [List.getD, List.getElem?_eq_getElem h]; rfl
theorem rp_all {l : Tb} : RightT l ↔ l.length ≤ 256 ∧ RPH l l.length := by
  constructor
  · intro h
    refine ⟨h.few, fun j hj => by rw [getD_hd hj]; exact h.may _ (List.getElem_mem hj), fun j k hjk hk => ?_⟩
    rw [getD_hd hk, getD_hd (show j < l.length by omega)]
    exact List.pairwise_iff_getElem.1 h.row j k (by omega) hk hjk
  · rintro ⟨h1, h2⟩
    refine ⟨h1, fun x hx => ?_, List.pairwise_iff_getElem.2 fun j k hj hk hjk => ?_⟩
    · obtain ⟨j, hj, rfl⟩ := List.getElem_of_mem hx
      rw [← getD_hd hj]; exact h2.may j hj
    · rw [← getD_hd hj, ← getD_hd hk]; exact h2.row j k hjk hk
theorem rp_zero (l : Tb) : RPH l 0 := ⟨fun j hj => absurd hj (by omega), fun j k _ hk => absurd hk (by omega)⟩
theorem rp_less {l : Tb} {i j : Nat} (h : RPH l j) (hi : i ≤ j) : RPH l i := ⟨fun k hk => h.may k (by omega), fun a b h1 h2 => h.row a b h1 (by omega)⟩
theorem rp_succ {l : Tb} {i : Nat} (h : RPH l i) (h1 : MayH (l.getD i hd0)) (h2 : 0 < i → (l.getD (i - 1) hd0).id < (l.getD i hd0).id) (h3 : ∀ k, k < i → clashH (l.getD k hd0) (l.getD i hd0) = false) : RPH l (i + 1) := by
  refine ⟨fun j hj => ?_, fun j k hjk hk => ?_⟩
  · by_cases e : j = i
    · subst e; exact h1
    · exact h.may j (by omega)
  · by_cases e : k = i
    · subst e
      refine ⟨?_, h3 j hjk⟩
      have h4 := h2 (by omega)
      by_cases e2 : j = k - 1
      · subst e2; exact h4
      · have := (h.row j (k - 1) (by omega) (by omega)).1
        omega
    · exact h.row j k hjk (by omega)
theorem right_no {l : Tb} {i : Nat} (hi : i < l.length) (h : ¬ RPH l (i + 1)) : rightT l = false := by
  refine Bool.eq_false_iff.2 fun hr => h ?_
  exact rp_less (rp_all.1 (rightT_is.1 hr)).2 hi
theorem right_longH {l : Tb} (h : 256 < l.length) : rightT l = false := by
  refine Bool.eq_false_iff.2 fun hr => ?_
  have := (rightT_is.1 hr).few
  omega

set_option maxRecDepth 100000 in
set_option maxHeartbeats 8000000 in
theorem refRightT_any (A : Option Addr) (n c : Nat) (l : Tb) (w : World) (hr : RT w w.heap.size A n l) (hn : n ≤ maxLen) :
    Calls Tryz.prog 30 #[.slice A n c] w fun e w' => e = .returned (.bool (rightT l)) ∧ Below w.heap.size w w' := by
  have HR0 := Lib.hid hr
  have HL := Lib.hid hr.len
  unfold maxLen at hn
  clear hr
  by_cases h256 : 256 < n
  · have HNO : Hid (rightT l = false) := Lib.hid (right_longH (by rw [HL.out]; exact h256))
    have d0 : decide (256 < n) = true := decide_eq_true h256
    go_enter Tryz.func30, Tryz.ntmps30
    go_wp2
    go_ret
    exact ⟨by rw [HNO.out]; rfl, Below.refl _ _⟩
  · have d0 : decide (256 < n) = false := decide_eq_false h256
    obtain ⟨rv, hrv⟩ : ∃ v, rightT l = v := ⟨_, rfl⟩
    go_enter Tryz.func30, Tryz.ntmps30
    go_wp2
    go_loopw [3] (fun iv wr => ∃ i : Nat, i ≤ n ∧ iv = .int .i64 i ∧ RPH l i ∧ Below w.heap.size w wr) (fun iv _ => n - (intOf iv).toNat)
    case atStart => exact ⟨0, Nat.zero_le _, rfl, rp_zero l, Below.refl _ _⟩
    case round =>
      obtain ⟨i, hi, rfl, hrp, hbel⟩ := hrel
      have HRP := Lib.hid hrp
      have HB := Lib.hid hbel
      have HR := Lib.hid (HR0.out.next hbel)
      clear hrp hbel
      by_cases hlt : i < n
      · obtain ⟨b, off, A2, m2, c2, rfl, hbl, c0, c1, c2', c3, hx⟩ := HR.out.one hlt
        obtain ⟨x, hxx⟩ : ∃ x, l.getD i hd0 = x := ⟨_, rfl⟩
        rw [hxx] at c0 c2' c3 hx
        have HX := Lib.hid hx
        have HXX := Lib.hid hxx
        have hil : i < l.length := by rw [HL.out]; exact hlt
        clear hx hxx
        by_cases hm : MayH x
        · have HMX := Lib.hid hm
          have EM : Hid (mayH x = true) := Lib.hid (decide_eq_true hm)
          clear hm
          by_cases h0 : 0 < i
          · obtain ⟨b', off', A4, m4, c4, e1, hbl2, e0, _, _, _, _⟩ := HR.out.one (show i - 1 < n by omega)
            injection e1 with e1
            injection e1 with e2 e3
            subst e2 e3
            obtain ⟨y, hy⟩ : ∃ y, (l.getD (i - 1) hd0).id = y := ⟨_, rfl⟩
            rw [hy] at e0
            have HYI := Lib.hid hy
            have g0 : decide (0 < i) = true := decide_eq_true h0
            have g1 : ((i : Int) - 1) = ((i - 1 : Nat) : Int) := by omega
            have hiz : (0 : Int) ≤ (i : Int) - 1 := by omega
            have hin : (i : Int) - 1 < (n : Int) := by omega
            clear hy hbl2
            by_cases h1 : x.id ≤ y
            · have g2 : decide (x.id ≤ y) = true := decide_eq_true h1
              have HNO : Hid (rightT l = false) := Lib.hid (right_no hil (fun hp => by
                have := (hp.row (i - 1) i (by omega) (by omega)).1
                rw [HYI.out, HXX.out] at this
                omega))
              go_wp2
              have zc0 : ∀ p : Later wr, p.now.cell? ⟨b, off + i * 4, none⟩ = some (.int .i64 x.id) := fun _ => Later.cell hbl c0
              have zc1 : ∀ p : Later wr, p.now.cell? ⟨b, off + i * 4 + 1, none⟩ = some (.slice A2 m2 c2) := fun _ => Later.cell hbl c1
              have zc2 : ∀ p : Later wr, p.now.cell? ⟨b, off + i * 4 + 2, none⟩ = some (.int .i64 x.frm) := fun _ => Later.cell hbl c2'
              have zc3 : ∀ p : Later wr, p.now.cell? ⟨b, off + i * 4 + 3, none⟩ = some (.int .i64 x.to) := fun _ => Later.cell hbl c3
              have zc4 : ∀ p : Later wr, p.now.cell? ⟨b, off + (i - 1) * 4, none⟩ = some (.int .i64 y) := fun _ => Later.cell hbl e0
              refine wp_region_later (by kernel_rfl) (by kernel_rfl) ?_
              repeat (first | go_big_quiet_skip | (go_big_quiet_want; go_big_quiet_op; first | go_big_quiet_on | (apply Exists.intro; refine ⟨fun pz => ?_, ?_⟩; (first | (go_at_call 57; exact Calls.later_of (refMay_b' (HX.out.next pz.bel) EM.out)) | fail); go_big_quiet_on)))
              refine wpQuiet_nil ?_
              intro _ hw'
              obtain ⟨pz, rfl⟩ := hw'
              obtain ⟨w1, hb⟩ := pz
              try dsimp only
              clear zc0 zc1 zc2 zc3 zc4
              have HBq := Lib.hid (HB.out.trans (hb.mono HB.out.size))
              clear HB
              have HB := HBq
              clear HBq
              have HXq := Lib.hid (HX.out.next hb)
              clear HX
              have HX := HXq
              clear HXq
              have HRq := Lib.hid (HR.out.next hb)
              clear HR
              have HR := HRq
              clear HRq
              clear hb
              go_wp2
              go_ret
              exact ⟨by rw [HNO.out]; rfl, HB.out⟩
            · have g2 : decide (x.id ≤ y) = false := decide_eq_false h1
              have HID : Hid (0 < i → (l.getD (i - 1) hd0).id < (l.getD i hd0).id) := Lib.hid (fun _ => by rw [HYI.out, HXX.out]; omega)
              go_wp2
              have zc0 : ∀ p : Later wr, p.now.cell? ⟨b, off + i * 4, none⟩ = some (.int .i64 x.id) := fun _ => Later.cell hbl c0
              have zc1 : ∀ p : Later wr, p.now.cell? ⟨b, off + i * 4 + 1, none⟩ = some (.slice A2 m2 c2) := fun _ => Later.cell hbl c1
              have zc2 : ∀ p : Later wr, p.now.cell? ⟨b, off + i * 4 + 2, none⟩ = some (.int .i64 x.frm) := fun _ => Later.cell hbl c2'
              have zc3 : ∀ p : Later wr, p.now.cell? ⟨b, off + i * 4 + 3, none⟩ = some (.int .i64 x.to) := fun _ => Later.cell hbl c3
              have zc4 : ∀ p : Later wr, p.now.cell? ⟨b, off + (i - 1) * 4, none⟩ = some (.int .i64 y) := fun _ => Later.cell hbl e0
              refine wp_region_later (by kernel_rfl) (by kernel_rfl) ?_
              repeat (first | go_big_quiet_skip | (go_big_quiet_want; go_big_quiet_op; first | go_big_quiet_on | (apply Exists.intro; refine ⟨fun pz => ?_, ?_⟩; (first | (go_at_call 57; exact Calls.later_of (refMay_b' (HX.out.next pz.bel) EM.out)) | fail); go_big_quiet_on)))
              refine wpQuiet_nil ?_
              intro _ hw'
              obtain ⟨pz, rfl⟩ := hw'
              obtain ⟨w1, hb⟩ := pz
              try dsimp only
              clear zc0 zc1 zc2 zc3 zc4
              have HBq := Lib.hid (HB.out.trans (hb.mono HB.out.size))
              clear HB
              have HB := HBq
              clear HBq
              have HXq := Lib.hid (HX.out.next hb)
              clear HX
              have HX := HXq
              clear HXq
              have HRq := Lib.hid (HR.out.next hb)
              clear HR
              have HR := HRq
              clear HRq
              clear hb
              clear hbl c0 c1 c2' c3 e0
              go_wp2
              go_loopw [4] (fun kv wr => ∃ k : Nat, k ≤ i ∧ kv = .int .i64 k ∧ (∀ j, j < k → clashH (l.getD j hd0) x = false) ∧ Below w1.heap.size w1 wr) (fun kv _ => i - (intOf kv).toNat)
              case atStart => exact ⟨0, Nat.zero_le _, rfl, fun j hj => absurd hj (by omega), Below.refl _ _⟩
              case round =>
                obtain ⟨k, hk, rfl, hcl, hb⟩ := hrel
                have HCL := Lib.hid hcl
                have HB2 := Lib.hid hb
                clear hcl
                have HBq := Lib.hid (HB.out.trans (hb.mono HB.out.size))
                clear HB
                have HB := HBq
                clear HBq
                have HXq := Lib.hid (HX.out.next hb)
                clear HX
                have HX := HXq
                clear HXq
                have HRq := Lib.hid (HR.out.next hb)
                clear HR
                have HR := HRq
                clear HRq
                clear hb
                by_cases hklt : k < i
                · obtain ⟨b, off, A2, m2, c2, e1, hbl, c0, c1, c2', c3, hx0⟩ := HR.out.one hlt
                  injection e1 with e1
                  injection e1 with e2 e3
                  subst e2 e3
                  rw [HXX.out] at c0 c2' c3 hx0
                  have hkn : k < n := by omega
                  obtain ⟨b', off', A4, m4, c4, e1, hbl2, d0, d1, d2, d3, hy⟩ := HR.out.one hkn
                  injection e1 with e1
                  injection e1 with e2 e3
                  subst e2 e3
                  have hmy := HRP.out.may k hklt
                  obtain ⟨y, hyy⟩ : ∃ y, l.getD k hd0 = y := ⟨_, rfl⟩
                  rw [hyy] at d0 d2 d3 hy hmy
                  have HYY := Lib.hid hyy
                  have HY := Lib.hid hy
                  have HX0 := Lib.hid hx0
                  have RX := Lib.hid HMX.out.2.1
                  have RY := Lib.hid hmy.2.1
                  clear hy hyy hmy hx0
                  cases hcv : clashH y x with
                  | true =>
                    have EC := Lib.hid hcv
                    have HNO : Hid (rightT l = false) := Lib.hid (right_no (by rw [HL.out]; exact hlt) (fun hp => by
                      have := (hp.row k i hklt (by omega)).2
                      rw [HYY.out, HXX.out, hcv] at this
                      cases this))
                    clear hcv
                    go_wp2
                    have zc0 : ∀ p : Later wr, p.now.cell? ⟨b, off + k * 4, none⟩ = some (.int .i64 y.id) := fun _ => Later.cell hbl d0
                    have zc1 : ∀ p : Later wr, p.now.cell? ⟨b, off + k * 4 + 1, none⟩ = some (.slice A4 m4 c4) := fun _ => Later.cell hbl d1
                    have zc2 : ∀ p : Later wr, p.now.cell? ⟨b, off + k * 4 + 2, none⟩ = some (.int .i64 y.frm) := fun _ => Later.cell hbl d2
                    have zc3 : ∀ p : Later wr, p.now.cell? ⟨b, off + k * 4 + 3, none⟩ = some (.int .i64 y.to) := fun _ => Later.cell hbl d3
                    have zc4 : ∀ p : Later wr, p.now.cell? ⟨b, off + i * 4, none⟩ = some (.int .i64 x.id) := fun _ => Later.cell hbl c0
                    have zc5 : ∀ p : Later wr, p.now.cell? ⟨b, off + i * 4 + 1, none⟩ = some (.slice A2 m2 c2) := fun _ => Later.cell hbl c1
                    have zc6 : ∀ p : Later wr, p.now.cell? ⟨b, off + i * 4 + 2, none⟩ = some (.int .i64 x.frm) := fun _ => Later.cell hbl c2'
                    have zc7 : ∀ p : Later wr, p.now.cell? ⟨b, off + i * 4 + 3, none⟩ = some (.int .i64 x.to) := fun _ => Later.cell hbl c3
                    refine wp_region_later (by kernel_rfl) (by kernel_rfl) ?_
                    repeat (first | go_big_quiet_skip | (go_big_quiet_want; go_big_quiet_op; first | go_big_quiet_on | (apply Exists.intro; refine ⟨fun pz => ?_, ?_⟩; (first | (go_at_call 58; exact Calls.later_of (refClash_b (HY.out.next pz.bel) (HX0.out.next pz.bel) RY.out RX.out EC.out)) | fail); go_big_quiet_on)))
                    refine wpQuiet_nil ?_
                    intro _ hw'
                    obtain ⟨pz, rfl⟩ := hw'
                    obtain ⟨w2, hb⟩ := pz
                    try dsimp only
                    clear zc0 zc1 zc2 zc3 zc4 zc5 zc6 zc7
                    have HBq := Lib.hid (HB.out.trans (hb.mono HB.out.size))
                    clear HB
                    have HB := HBq
                    clear HBq
                    have HB2q := Lib.hid (HB2.out.trans (hb.mono HB2.out.size))
                    clear HB2
                    have HB2 := HB2q
                    clear HB2q
                    have HX0q := Lib.hid (HX0.out.next hb)
                    clear HX0
                    have HX0 := HX0q
                    clear HX0q
                    have HYq := Lib.hid (HY.out.next hb)
                    clear HY
                    have HY := HYq
                    clear HYq
                    have HRq := Lib.hid (HR.out.next hb)
                    clear HR
                    have HR := HRq
                    clear HRq
                    clear hb
                    go_wp2
                    go_ret
                    exact ⟨by rw [HNO.out]; rfl, HB.out⟩
                  | false =>
                    have EC := Lib.hid hcv
                    have HCN : Hid (∀ j, j < k + 1 → clashH (l.getD j hd0) x = false) := Lib.hid (fun j hj => by
                      by_cases e : j = k
                      · subst e; rw [HYY.out]; exact hcv
                      · exact HCL.out j (by omega))
                    clear hcv
                    go_wp2
                    have zc0 : ∀ p : Later wr, p.now.cell? ⟨b, off + k * 4, none⟩ = some (.int .i64 y.id) := fun _ => Later.cell hbl d0
                    have zc1 : ∀ p : Later wr, p.now.cell? ⟨b, off + k * 4 + 1, none⟩ = some (.slice A4 m4 c4) := fun _ => Later.cell hbl d1
                    have zc2 : ∀ p : Later wr, p.now.cell? ⟨b, off + k * 4 + 2, none⟩ = some (.int .i64 y.frm) := fun _ => Later.cell hbl d2
                    have zc3 : ∀ p : Later wr, p.now.cell? ⟨b, off + k * 4 + 3, none⟩ = some (.int .i64 y.to) := fun _ => Later.cell hbl d3
                    have zc4 : ∀ p : Later wr, p.now.cell? ⟨b, off + i * 4, none⟩ = some (.int .i64 x.id) := fun _ => Later.cell hbl c0
                    have zc5 : ∀ p : Later wr, p.now.cell? ⟨b, off + i * 4 + 1, none⟩ = some (.slice A2 m2 c2) := fun _ => Later.cell hbl c1
                    have zc6 : ∀ p : Later wr, p.now.cell? ⟨b, off + i * 4 + 2, none⟩ = some (.int .i64 x.frm) := fun _ => Later.cell hbl c2'
                    have zc7 : ∀ p : Later wr, p.now.cell? ⟨b, off + i * 4 + 3, none⟩ = some (.int .i64 x.to) := fun _ => Later.cell hbl c3
                    refine wp_region_later (by kernel_rfl) (by kernel_rfl) ?_
                    repeat (first | go_big_quiet_skip | (go_big_quiet_want; go_big_quiet_op; first | go_big_quiet_on | (apply Exists.intro; refine ⟨fun pz => ?_, ?_⟩; (first | (go_at_call 58; exact Calls.later_of (refClash_b (HY.out.next pz.bel) (HX0.out.next pz.bel) RY.out RX.out EC.out)) | fail); go_big_quiet_on)))
                    refine wpQuiet_nil ?_
                    intro _ hw'
                    obtain ⟨pz, rfl⟩ := hw'
                    obtain ⟨w2, hb⟩ := pz
                    try dsimp only
                    clear zc0 zc1 zc2 zc3 zc4 zc5 zc6 zc7
                    have HBq := Lib.hid (HB.out.trans (hb.mono HB.out.size))
                    clear HB
                    have HB := HBq
                    clear HBq
                    have HB2q := Lib.hid (HB2.out.trans (hb.mono HB2.out.size))
                    clear HB2
                    have HB2 := HB2q
                    clear HB2q
                    have HX0q := Lib.hid (HX0.out.next hb)
                    clear HX0
                    have HX0 := HX0q
                    clear HX0q
                    have HYq := Lib.hid (HY.out.next hb)
                    clear HY
                    have HY := HYq
                    clear HYq
                    have HRq := Lib.hid (HR.out.next hb)
                    clear HR
                    have HR := HRq
                    clear HRq
                    clear hb
                    go_wp2
                    go_roundw
                    case rel => exact ⟨k + 1, by omega, by go_num, HCN.out, HB2.out⟩
                    case measure => simp [intOf]; omega
                · have hki : k = i := by omega
                  have HRN : Hid (RPH l (i + 1)) := Lib.hid (rp_succ HRP.out (by rw [HXX.out]; exact HMX.out) HID.out (fun j hj => by rw [HXX.out]; exact HCL.out j (by omega)))
                  go_wp2
                  go_roundw
                  case rel => exact ⟨i + 1, by omega, by go_num, HRN.out, HB.out⟩
                  case measure => simp [intOf]; omega
          · have g0 : decide (0 < i) = false := decide_eq_false h0
            have HID : Hid (0 < i → (l.getD (i - 1) hd0).id < (l.getD i hd0).id) := Lib.hid (fun e => absurd e h0)
            go_wp2
            have zc0 : ∀ p : Later wr, p.now.cell? ⟨b, off + i * 4, none⟩ = some (.int .i64 x.id) := fun _ => Later.cell hbl c0
            have zc1 : ∀ p : Later wr, p.now.cell? ⟨b, off + i * 4 + 1, none⟩ = some (.slice A2 m2 c2) := fun _ => Later.cell hbl c1
            have zc2 : ∀ p : Later wr, p.now.cell? ⟨b, off + i * 4 + 2, none⟩ = some (.int .i64 x.frm) := fun _ => Later.cell hbl c2'
            have zc3 : ∀ p : Later wr, p.now.cell? ⟨b, off + i * 4 + 3, none⟩ = some (.int .i64 x.to) := fun _ => Later.cell hbl c3
            refine wp_region_later (by kernel_rfl) (by kernel_rfl) ?_
            repeat (first | go_big_quiet_skip | (go_big_quiet_want; go_big_quiet_op; first | go_big_quiet_on | (apply Exists.intro; refine ⟨fun pz => ?_, ?_⟩; (first | (go_at_call 57; exact Calls.later_of (refMay_b' (HX.out.next pz.bel) EM.out)) | fail); go_big_quiet_on)))
            refine wpQuiet_nil ?_
            intro _ hw'
            obtain ⟨pz, rfl⟩ := hw'
            obtain ⟨w1, hb⟩ := pz
            try dsimp only
            clear zc0 zc1 zc2 zc3
            have HBq := Lib.hid (HB.out.trans (hb.mono HB.out.size))
            clear HB
            have HB := HBq
            clear HBq
            have HXq := Lib.hid (HX.out.next hb)
            clear HX
            have HX := HXq
            clear HXq
            have HRq := Lib.hid (HR.out.next hb)
            clear HR
            have HR := HRq
            clear HRq
            clear hb
            clear hbl c0 c1 c2' c3
            go_wp2
            go_loopw [4] (fun kv wr => ∃ k : Nat, k ≤ i ∧ kv = .int .i64 k ∧ (∀ j, j < k → clashH (l.getD j hd0) x = false) ∧ Below w1.heap.size w1 wr) (fun kv _ => i - (intOf kv).toNat)
            case atStart => exact ⟨0, Nat.zero_le _, rfl, fun j hj => absurd hj (by omega), Below.refl _ _⟩
            case round =>
              obtain ⟨k, hk, rfl, hcl, hb⟩ := hrel
              have HCL := Lib.hid hcl
              have HB2 := Lib.hid hb
              clear hcl
              have HBq := Lib.hid (HB.out.trans (hb.mono HB.out.size))
              clear HB
              have HB := HBq
              clear HBq
              have HXq := Lib.hid (HX.out.next hb)
              clear HX
              have HX := HXq
              clear HXq
              have HRq := Lib.hid (HR.out.next hb)
              clear HR
              have HR := HRq
              clear HRq
              clear hb
              by_cases hklt : k < i
              · obtain ⟨b, off, A2, m2, c2, e1, hbl, c0, c1, c2', c3, hx0⟩ := HR.out.one hlt
                injection e1 with e1
                injection e1 with e2 e3
                subst e2 e3
                rw [HXX.out] at c0 c2' c3 hx0
                have hkn : k < n := by omega
                obtain ⟨b', off', A4, m4, c4, e1, hbl2, d0, d1, d2, d3, hy⟩ := HR.out.one hkn
                injection e1 with e1
                injection e1 with e2 e3
                subst e2 e3
                have hmy := HRP.out.may k hklt
                obtain ⟨y, hyy⟩ : ∃ y, l.getD k hd0 = y := ⟨_, rfl⟩
                rw [hyy] at d0 d2 d3 hy hmy
                have HYY := Lib.hid hyy
                have HY := Lib.hid hy
                have HX0 := Lib.hid hx0
                have RX := Lib.hid HMX.out.2.1
                have RY := Lib.hid hmy.2.1
                clear hy hyy hmy hx0
                cases hcv : clashH y x with
                | true =>
                  have EC := Lib.hid hcv
                  have HNO : Hid (rightT l = false) := Lib.hid (right_no (by rw [HL.out]; exact hlt) (fun hp => by
                    have := (hp.row k i hklt (by omega)).2
                    rw [HYY.out, HXX.out, hcv] at this
                    cases this))
                  clear hcv
                  go_wp2
                  have zc0 : ∀ p : Later wr, p.now.cell? ⟨b, off + k * 4, none⟩ = some (.int .i64 y.id) := fun _ => Later.cell hbl d0
                  have zc1 : ∀ p : Later wr, p.now.cell? ⟨b, off + k * 4 + 1, none⟩ = some (.slice A4 m4 c4) := fun _ => Later.cell hbl d1
                  have zc2 : ∀ p : Later wr, p.now.cell? ⟨b, off + k * 4 + 2, none⟩ = some (.int .i64 y.frm) := fun _ => Later.cell hbl d2
                  have zc3 : ∀ p : Later wr, p.now.cell? ⟨b, off + k * 4 + 3, none⟩ = some (.int .i64 y.to) := fun _ => Later.cell hbl d3
                  have zc4 : ∀ p : Later wr, p.now.cell? ⟨b, off + i * 4, none⟩ = some (.int .i64 x.id) := fun _ => Later.cell hbl c0
                  have zc5 : ∀ p : Later wr, p.now.cell? ⟨b, off + i * 4 + 1, none⟩ = some (.slice A2 m2 c2) := fun _ => Later.cell hbl c1
                  have zc6 : ∀ p : Later wr, p.now.cell? ⟨b, off + i * 4 + 2, none⟩ = some (.int .i64 x.frm) := fun _ => Later.cell hbl c2'
                  have zc7 : ∀ p : Later wr, p.now.cell? ⟨b, off + i * 4 + 3, none⟩ = some (.int .i64 x.to) := fun _ => Later.cell hbl c3
                  refine wp_region_later (by kernel_rfl) (by kernel_rfl) ?_
                  repeat (first | go_big_quiet_skip | (go_big_quiet_want; go_big_quiet_op; first | go_big_quiet_on | (apply Exists.intro; refine ⟨fun pz => ?_, ?_⟩; (first | (go_at_call 58; exact Calls.later_of (refClash_b (HY.out.next pz.bel) (HX0.out.next pz.bel) RY.out RX.out EC.out)) | fail); go_big_quiet_on)))
                  refine wpQuiet_nil ?_
                  intro _ hw'
                  obtain ⟨pz, rfl⟩ := hw'
                  obtain ⟨w2, hb⟩ := pz
                  try dsimp only
                  clear zc0 zc1 zc2 zc3 zc4 zc5 zc6 zc7
                  have HBq := Lib.hid (HB.out.trans (hb.mono HB.out.size))
                  clear HB
                  have HB := HBq
                  clear HBq
                  have HB2q := Lib.hid (HB2.out.trans (hb.mono HB2.out.size))
                  clear HB2
                  have HB2 := HB2q
                  clear HB2q
                  have HX0q := Lib.hid (HX0.out.next hb)
                  clear HX0
                  have HX0 := HX0q
                  clear HX0q
                  have HYq := Lib.hid (HY.out.next hb)
                  clear HY
                  have HY := HYq
                  clear HYq
                  have HRq := Lib.hid (HR.out.next hb)
                  clear HR
                  have HR := HRq
                  clear HRq
                  clear hb
                  go_wp2
                  go_ret
                  exact ⟨by rw [HNO.out]; rfl, HB.out⟩
                | false =>
                  have EC := Lib.hid hcv
                  have HCN : Hid (∀ j, j < k + 1 → clashH (l.getD j hd0) x = false) := Lib.hid (fun j hj => by
                    by_cases e : j = k
                    · subst e; rw [HYY.out]; exact hcv
                    · exact HCL.out j (by omega))
                  clear hcv
                  go_wp2
                  have zc0 : ∀ p : Later wr, p.now.cell? ⟨b, off + k * 4, none⟩ = some (.int .i64 y.id) := fun _ => Later.cell hbl d0
                  have zc1 : ∀ p : Later wr, p.now.cell? ⟨b, off + k * 4 + 1, none⟩ = some (.slice A4 m4 c4) := fun _ => Later.cell hbl d1
                  have zc2 : ∀ p : Later wr, p.now.cell? ⟨b, off + k * 4 + 2, none⟩ = some (.int .i64 y.frm) := fun _ => Later.cell hbl d2
                  have zc3 : ∀ p : Later wr, p.now.cell? ⟨b, off + k * 4 + 3, none⟩ = some (.int .i64 y.to) := fun _ => Later.cell hbl d3
                  have zc4 : ∀ p : Later wr, p.now.cell? ⟨b, off + i * 4, none⟩ = some (.int .i64 x.id) := fun _ => Later.cell hbl c0
                  have zc5 : ∀ p : Later wr, p.now.cell? ⟨b, off + i * 4 + 1, none⟩ = some (.slice A2 m2 c2) := fun _ => Later.cell hbl c1
                  have zc6 : ∀ p : Later wr, p.now.cell? ⟨b, off + i * 4 + 2, none⟩ = some (.int .i64 x.frm) := fun _ => Later.cell hbl c2'
                  have zc7 : ∀ p : Later wr, p.now.cell? ⟨b, off + i * 4 + 3, none⟩ = some (.int .i64 x.to) := fun _ => Later.cell hbl c3
                  refine wp_region_later (by kernel_rfl) (by kernel_rfl) ?_
                  repeat (first | go_big_quiet_skip | (go_big_quiet_want; go_big_quiet_op; first | go_big_quiet_on | (apply Exists.intro; refine ⟨fun pz => ?_, ?_⟩; (first | (go_at_call 58; exact Calls.later_of (refClash_b (HY.out.next pz.bel) (HX0.out.next pz.bel) RY.out RX.out EC.out)) | fail); go_big_quiet_on)))
                  refine wpQuiet_nil ?_
                  intro _ hw'
                  obtain ⟨pz, rfl⟩ := hw'
                  obtain ⟨w2, hb⟩ := pz
                  try dsimp only
                  clear zc0 zc1 zc2 zc3 zc4 zc5 zc6 zc7
                  have HBq := Lib.hid (HB.out.trans (hb.mono HB.out.size))
                  clear HB
                  have HB := HBq
                  clear HBq
                  have HB2q := Lib.hid (HB2.out.trans (hb.mono HB2.out.size))
                  clear HB2
                  have HB2 := HB2q
                  clear HB2q
                  have HX0q := Lib.hid (HX0.out.next hb)
                  clear HX0
                  have HX0 := HX0q
                  clear HX0q
                  have HYq := Lib.hid (HY.out.next hb)
                  clear HY
                  have HY := HYq
                  clear HYq
                  have HRq := Lib.hid (HR.out.next hb)
                  clear HR
                  have HR := HRq
                  clear HRq
                  clear hb
                  go_wp2
                  go_roundw
                  case rel => exact ⟨k + 1, by omega, by go_num, HCN.out, HB2.out⟩
                  case measure => simp [intOf]; omega
              · have hki : k = i := by omega
                have HRN : Hid (RPH l (i + 1)) := Lib.hid (rp_succ HRP.out (by rw [HXX.out]; exact HMX.out) HID.out (fun j hj => by rw [HXX.out]; exact HCL.out j (by omega)))
                go_wp2
                go_roundw
                case rel => exact ⟨i + 1, by omega, by go_num, HRN.out, HB.out⟩
                case measure => simp [intOf]; omega
        · have EM : Hid (mayH x = false) := Lib.hid (decide_eq_false hm)
          have HNO : Hid (rightT l = false) := Lib.hid (right_no hil (fun hp => hm (by rw [← HXX.out]; exact hp.may i (by omega))))
          clear hm
          go_wp2
          have zc0 : ∀ p : Later wr, p.now.cell? ⟨b, off + i * 4, none⟩ = some (.int .i64 x.id) := fun _ => Later.cell hbl c0
          have zc1 : ∀ p : Later wr, p.now.cell? ⟨b, off + i * 4 + 1, none⟩ = some (.slice A2 m2 c2) := fun _ => Later.cell hbl c1
          have zc2 : ∀ p : Later wr, p.now.cell? ⟨b, off + i * 4 + 2, none⟩ = some (.int .i64 x.frm) := fun _ => Later.cell hbl c2'
          have zc3 : ∀ p : Later wr, p.now.cell? ⟨b, off + i * 4 + 3, none⟩ = some (.int .i64 x.to) := fun _ => Later.cell hbl c3
          refine wp_region_later (by kernel_rfl) (by kernel_rfl) ?_
          repeat (first | go_big_quiet_skip | (go_big_quiet_want; go_big_quiet_op; first | go_big_quiet_on | (apply Exists.intro; refine ⟨fun pz => ?_, ?_⟩; (first | (go_at_call 57; exact Calls.later_of (refMay_b' (HX.out.next pz.bel) EM.out)) | fail); go_big_quiet_on)))
          refine wpQuiet_nil ?_
          intro _ hw'
          obtain ⟨pz, rfl⟩ := hw'
          obtain ⟨w1, hb⟩ := pz
          try dsimp only
          clear zc0 zc1 zc2 zc3
          have HBq := Lib.hid (HB.out.trans (hb.mono HB.out.size))
          clear HB
          have HB := HBq
          clear HBq
          have HXq := Lib.hid (HX.out.next hb)
          clear HX
          have HX := HXq
          clear HXq
          have HRq := Lib.hid (HR.out.next hb)
          clear HR
          have HR := HRq
          clear HRq
          clear hb
          go_wp2
          go_ret
          exact ⟨by rw [HNO.out]; rfl, HB.out⟩
      · have hin : i = n := by omega
        have HYES : Hid (rightT l = true) := Lib.hid (rightT_is.2 (rp_all.2 ⟨by rw [HL.out]; omega, by rw [HL.out, ← hin]; exact HRP.out⟩))
        go_wp2
        go_ret
        exact ⟨by rw [HYES.out]; rfl, HB.out⟩

end Go.Proofs.YtpoalgkgomljmaaGreatDoor
