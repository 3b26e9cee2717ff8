/- The statement HeldBack, as a walk over the contracts: of any table, holding and time the call returns true. Written by gen/gen_heldlaws.py. -/
import Derived.Test.YtbiofikijehlcaaMg04
import Derived.Test.YtbiofikijehlcaaMg07
namespace Go.Proofs.Ytbiofikijehlcaa
open Go.RowKit

set_option maxRecDepth 100000 in
set_option maxHeartbeats 8000000 in
theorem heldBack_l0 (H : HeldOk) (A : Option Addr) (n c : Nat) (l : Tb) (A2 : Option Addr) (m c2 : Nat) (h : Hd) (z : Int) (w : World) (hl : TAsk w A n c l) (hh : HAsk w A2 m c2 h) (h0 : shortT l = false) :
    Calls Try.prog 5 #[.slice A n c, .agg #[.int .i64 h.id, .slice A2 m c2, .int .i64 h.frm, .int .i64 h.to], .int .i64 z] w fun e w' => e = .returned (.bool true) ∧ Below w.heap.size w w' := by
  obtain ⟨W, hW⟩ : ∃ W, W = w.alloc (hO h A2 m c2) := ⟨_, rfl⟩
  have BX : Hid (BoxH W w.heap.size h A2 m c2) := Lib.hid (by rw [hW]; exact boxH_new w h A2 m c2)
  have hb0 : Below w.heap.size w W := by rw [hW]; exact (Below.refl _ _).alloc (Nat.le_refl _) _
  have HB := Lib.hid hb0
  have T0 := Lib.hid (hl.next hb0)
  have HH := Lib.hid (hh.next hb0)
  have hm2 := hh.few
  unfold maxLen at hm2
  unfold hO at hW
  have E0 := Lib.hid h0
  clear hb0 hl hh HH BX h0
  go_enter Try.func5, Try.ntmps5
  go_wp2_with fail
  rw [← hW]
  refine (awake10_any H _).mono ?_
  rintro e w1 ⟨rfl, hb⟩
  have HBq := Lib.hid (HB.out.trans (hb.mono HB.out.size))
  clear HB
  have HB := HBq
  clear HBq
  have T0q := Lib.hid (T0.out.next hb)
  clear T0
  have T0 := T0q
  clear T0q
  clear hb
  clear hW
  go_wp2_with fail
  refine (short_b T0.out E0.out).mono ?_
  rintro e w2 ⟨rfl, hb⟩
  have HBq := Lib.hid (HB.out.trans (hb.mono HB.out.size))
  clear HB
  have HB := HBq
  clear HBq
  have T0q := Lib.hid (T0.out.next hb)
  clear T0
  have T0 := T0q
  clear T0q
  clear hb
  go_wp2
  go_ret
  exact ⟨rfl, HB.out⟩

set_option maxRecDepth 100000 in
set_option maxHeartbeats 8000000 in
theorem heldBack_l1 (H : HeldOk) (A : Option Addr) (n c : Nat) (l : Tb) (A2 : Option Addr) (m c2 : Nat) (h : Hd) (z : Int) (w : World) (hl : TAsk w A n c l) (hh : HAsk w A2 m c2 h) (h0 : shortT l = true) (h60 : 60 < m) :
    Calls Try.prog 5 #[.slice A n c, .agg #[.int .i64 h.id, .slice A2 m c2, .int .i64 h.frm, .int .i64 h.to], .int .i64 z] w fun e w' => e = .returned (.bool true) ∧ Below w.heap.size w w' := by
  obtain ⟨W, hW⟩ : ∃ W, W = w.alloc (hO h A2 m c2) := ⟨_, rfl⟩
  have BX : Hid (BoxH W w.heap.size h A2 m c2) := Lib.hid (by rw [hW]; exact boxH_new w h A2 m c2)
  have hb0 : Below w.heap.size w W := by rw [hW]; exact (Below.refl _ _).alloc (Nat.le_refl _) _
  have HB := Lib.hid hb0
  have T0 := Lib.hid (hl.next hb0)
  have HH := Lib.hid (hh.next hb0)
  have hm2 := hh.few
  unfold maxLen at hm2
  unfold hO at hW
  have E0 := Lib.hid h0
  have h60d : decide ((60 : Int) < (m : Int)) = true := by simp; omega
  clear hb0 hl hh HH h0
  go_enter Try.func5, Try.ntmps5
  go_wp2_with fail
  rw [← hW]
  refine (awake10_any H _).mono ?_
  rintro e w1 ⟨rfl, hb⟩
  have HBq := Lib.hid (HB.out.trans (hb.mono HB.out.size))
  clear HB
  have HB := HBq
  clear HBq
  have T0q := Lib.hid (T0.out.next hb)
  clear T0
  have T0 := T0q
  clear T0q
  have BXq := Lib.hid (BX.out.next hb)
  clear BX
  have BX := BXq
  clear BXq
  clear hb
  clear hW
  go_wp2_with fail
  refine (short_b T0.out E0.out).mono ?_
  rintro e w2 ⟨rfl, hb⟩
  have HBq := Lib.hid (HB.out.trans (hb.mono HB.out.size))
  clear HB
  have HB := HBq
  clear HBq
  have T0q := Lib.hid (T0.out.next hb)
  clear T0
  have T0 := T0q
  clear T0q
  have BXq := Lib.hid (BX.out.next hb)
  clear BX
  have BX := BXq
  clear BXq
  clear hb
  have q0 := BX.out.c0
  have q1 := BX.out.c1
  have q2 := BX.out.c2
  have q3 := BX.out.c3
  go_wp2
  go_ret
  exact ⟨rfl, HB.out⟩

set_option maxRecDepth 100000 in
set_option maxHeartbeats 8000000 in
theorem heldBack_no (H : HeldOk) (A : Option Addr) (n c : Nat) (l : Tb) (A2 : Option Addr) (m c2 : Nat) (h : Hd) (z : Int) (w : World) (hl : TAsk w A n c l) (hh : HAsk w A2 m c2 h) (h0 : shortT l = true) (h60 : ¬ 60 < m) (he : addE l h ≠ 0) :
    Calls Try.prog 5 #[.slice A n c, .agg #[.int .i64 h.id, .slice A2 m c2, .int .i64 h.frm, .int .i64 h.to], .int .i64 z] w fun e w' => e = .returned (.bool true) ∧ Below w.heap.size w w' := by
  obtain ⟨W, hW⟩ : ∃ W, W = w.alloc (hO h A2 m c2) := ⟨_, rfl⟩
  have BX : Hid (BoxH W w.heap.size h A2 m c2) := Lib.hid (by rw [hW]; exact boxH_new w h A2 m c2)
  have hb0 : Below w.heap.size w W := by rw [hW]; exact (Below.refl _ _).alloc (Nat.le_refl _) _
  have HB := Lib.hid hb0
  have T0 := Lib.hid (hl.next hb0)
  have HH := Lib.hid (hh.next hb0)
  have hm2 := hh.few
  unfold maxLen at hm2
  unfold hO at hW
  have E0 := Lib.hid h0
  have F0 := Lib.hid (short_few' h0)
  have h60d : decide ((60 : Int) < (m : Int)) = false := by simp; omega
  have hmm : m ≤ 100 := by omega
  have HML := Lib.hid hh.reads.1
  have E1 := Lib.hid (add_no he)
  obtain ⟨er, e2⟩ : ∃ v, addE l h = v := ⟨_, rfl⟩
  rw [e2] at he
  have E2 := Lib.hid e2
  have d1 : (er == 0) = false := beq_eq_false_iff_ne.2 he
  have d2 : (er != 0) = true := bne_iff_ne.2 he
  clear hb0 hl hh h0 h60 e2
  go_enter Try.func5, Try.ntmps5
  go_wp2_with fail
  rw [← hW]
  refine (awake10_any H _).mono ?_
  rintro e w1 ⟨rfl, hb⟩
  have HBq := Lib.hid (HB.out.trans (hb.mono HB.out.size))
  clear HB
  have HB := HBq
  clear HBq
  have T0q := Lib.hid (T0.out.next hb)
  clear T0
  have T0 := T0q
  clear T0q
  have HHq := Lib.hid (HH.out.next hb)
  clear HH
  have HH := HHq
  clear HHq
  have BXq := Lib.hid (BX.out.next hb)
  clear BX
  have BX := BXq
  clear BXq
  clear hb
  clear hW
  go_wp2_with fail
  refine (short_b T0.out E0.out).mono ?_
  rintro e w2 ⟨rfl, hb⟩
  have HBq := Lib.hid (HB.out.trans (hb.mono HB.out.size))
  clear HB
  have HB := HBq
  clear HBq
  have T0q := Lib.hid (T0.out.next hb)
  clear T0
  have T0 := T0q
  clear T0q
  have HHq := Lib.hid (HH.out.next hb)
  clear HH
  have HH := HHq
  clear HHq
  have BXq := Lib.hid (BX.out.next hb)
  clear BX
  have BX := BXq
  clear BXq
  clear hb
  have q0 := BX.out.c0
  have q1 := BX.out.c1
  have q2 := BX.out.c2
  have q3 := BX.out.c3
  go_wp2_with fail
  refine (h10_add H T0.out F0.out HH.out hmm E1.out E2.out).mono ?_
  rintro e w3 ⟨⟨A1, c1, rfl, hr1, hn1, hc1⟩, hb⟩
  have HBq := Lib.hid (HB.out.trans (hb.mono HB.out.size))
  clear HB
  have HB := HBq
  clear HBq
  have T0q := Lib.hid (T0.out.next hb)
  clear T0
  have T0 := T0q
  clear T0q
  have HHq := Lib.hid (HH.out.next hb)
  clear HH
  have HH := HHq
  clear HHq
  have BXq := Lib.hid (BX.out.next hb)
  clear BX
  have BX := BXq
  clear BXq
  clear hb
  have T1 := Lib.hid (ans_ask hr1 hn1 hc1 (by have := F0.out.1; unfold maxLen; omega))
  clear hr1 hn1 hc1
  go_wp2_with fail
  refine (sameT_b T1.out T0.out (sameT_self l)).mono ?_
  rintro e w4 ⟨rfl, hb⟩
  have HBq := Lib.hid (HB.out.trans (hb.mono HB.out.size))
  clear HB
  have HB := HBq
  clear HBq
  have T0q := Lib.hid (T0.out.next hb)
  clear T0
  have T0 := T0q
  clear T0q
  have HHq := Lib.hid (HH.out.next hb)
  clear HH
  have HH := HHq
  clear HHq
  have BXq := Lib.hid (BX.out.next hb)
  clear BX
  have BX := BXq
  clear BXq
  have T1q := Lib.hid (T1.out.next hb)
  clear T1
  have T1 := T1q
  clear T1q
  clear hb
  go_wp2
  go_ret
  exact ⟨rfl, HB.out⟩

set_option maxRecDepth 100000 in
set_option maxHeartbeats 8000000 in
theorem heldBack_c1 (H : HeldOk) (A : Option Addr) (n c : Nat) (l : Tb) (A2 : Option Addr) (m c2 : Nat) (h : Hd) (z : Int) (w : World) (hl : TAsk w A n c l) (hh : HAsk w A2 m c2 h) (h0 : shortT l = true) (h60 : ¬ 60 < m) (hma : MayAdd l h) (hz : z ≤ h.frm) :
    Calls Try.prog 5 #[.slice A n c, .agg #[.int .i64 h.id, .slice A2 m c2, .int .i64 h.frm, .int .i64 h.to], .int .i64 z] w fun e w' => e = .returned (.bool true) ∧ Below w.heap.size w w' := by
  obtain ⟨W, hW⟩ : ∃ W, W = w.alloc (hO h A2 m c2) := ⟨_, rfl⟩
  have BX : Hid (BoxH W w.heap.size h A2 m c2) := Lib.hid (by rw [hW]; exact boxH_new w h A2 m c2)
  have hb0 : Below w.heap.size w W := by rw [hW]; exact (Below.refl _ _).alloc (Nat.le_refl _) _
  have HB := Lib.hid hb0
  have T0 := Lib.hid (hl.next hb0)
  have HH := Lib.hid (hh.next hb0)
  have hm2 := hh.few
  unfold maxLen at hm2
  unfold hO at hW
  have E0 := Lib.hid h0
  have F0 := Lib.hid (short_few' h0)
  have h60d : decide ((60 : Int) < (m : Int)) = false := by simp; omega
  have hmm : m ≤ 100 := by omega
  have HML := Lib.hid hh.reads.1
  have hsh := ins_short (short_is h0) (h := h) (by have := HML.out; omega)
  have F1 := Lib.hid (ins_few (short_is h0) (h := h) (by have := HML.out; omega))
  have E1 := Lib.hid (add_yes hma)
  have E2 := Lib.hid (add_ok.2 hma)
  have DE := Lib.hid hma.dropE
  have DT := Lib.hid hma.dropT
  have DG := Lib.hid (getT_add hma)
  have CE := Lib.hid (hma.cutE z)
  have CT := Lib.hid (fun h1 h2 => hma.cutT (z := z) h1 h2)
  have CR := Lib.hid (fun h1 h2 => hma.cut_right (z := z) h1 h2)
  obtain ⟨l1, e1⟩ : ∃ r, insT l h = r := ⟨_, rfl⟩
  rw [e1] at F1 E1 DE DT DG CE CT CR hsh
  have L1 := Lib.hid hsh.1
  clear hb0 hl hh h0 h60 e1 hsh
  have CN := Lib.hid (CE.out.trans (if_pos (.inl hz)))
  have dz : decide (z ≤ h.frm) = true := decide_eq_true hz
  go_enter Try.func5, Try.ntmps5
  go_wp2_with fail
  rw [← hW]
  refine (awake10_any H _).mono ?_
  rintro e w1 ⟨rfl, hb⟩
  have HBq := Lib.hid (HB.out.trans (hb.mono HB.out.size))
  clear HB
  have HB := HBq
  clear HBq
  have T0q := Lib.hid (T0.out.next hb)
  clear T0
  have T0 := T0q
  clear T0q
  have HHq := Lib.hid (HH.out.next hb)
  clear HH
  have HH := HHq
  clear HHq
  have BXq := Lib.hid (BX.out.next hb)
  clear BX
  have BX := BXq
  clear BXq
  clear hb
  clear hW
  go_wp2_with fail
  refine (short_b T0.out E0.out).mono ?_
  rintro e w2 ⟨rfl, hb⟩
  have HBq := Lib.hid (HB.out.trans (hb.mono HB.out.size))
  clear HB
  have HB := HBq
  clear HBq
  have T0q := Lib.hid (T0.out.next hb)
  clear T0
  have T0 := T0q
  clear T0q
  have HHq := Lib.hid (HH.out.next hb)
  clear HH
  have HH := HHq
  clear HHq
  have BXq := Lib.hid (BX.out.next hb)
  clear BX
  have BX := BXq
  clear BXq
  clear hb
  have q0 := BX.out.c0
  have q1 := BX.out.c1
  have q2 := BX.out.c2
  have q3 := BX.out.c3
  go_wp2_with fail
  refine (h10_add H T0.out F0.out HH.out hmm E1.out E2.out).mono ?_
  rintro e w3 ⟨⟨A1, c1, rfl, hr1, hn1, hc1⟩, hb⟩
  have HBq := Lib.hid (HB.out.trans (hb.mono HB.out.size))
  clear HB
  have HB := HBq
  clear HBq
  have T0q := Lib.hid (T0.out.next hb)
  clear T0
  have T0 := T0q
  clear T0q
  have HHq := Lib.hid (HH.out.next hb)
  clear HH
  have HH := HHq
  clear HHq
  have BXq := Lib.hid (BX.out.next hb)
  clear BX
  have BX := BXq
  clear BXq
  clear hb
  have T1 := Lib.hid (ans_ask hr1 hn1 hc1 (by have := L1.out; unfold maxLen; omega))
  clear hr1 hn1 hc1
  clear q0 q1 q2 q3
  have q0 := BX.out.c0
  have q1 := BX.out.c1
  have q2 := BX.out.c2
  have q3 := BX.out.c3
  go_wp2_with fail
  refine (h10_drop H T1.out F1.out DE.out DT.out DG.out).mono ?_
  rintro e w4 ⟨⟨A2, n2, c2, D2, m2, d2, rfl, ⟨hr2, hn2, hc2⟩, hh2⟩, hb⟩
  obtain rfl := hr2.len
  have HBq := Lib.hid (HB.out.trans (hb.mono HB.out.size))
  clear HB
  have HB := HBq
  clear HBq
  have T0q := Lib.hid (T0.out.next hb)
  clear T0
  have T0 := T0q
  clear T0q
  have HHq := Lib.hid (HH.out.next hb)
  clear HH
  have HH := HHq
  clear HHq
  have BXq := Lib.hid (BX.out.next hb)
  clear BX
  have BX := BXq
  clear BXq
  have T1q := Lib.hid (T1.out.next hb)
  clear T1
  have T1 := T1q
  clear T1q
  clear hb
  have T2 := Lib.hid (ans_ask hr2 hn2 hc2 (by have := F0.out.1; unfold maxLen; omega))
  have H2 := Lib.hid hh2
  clear hr2 hn2 hc2 hh2
  clear q0 q1 q2 q3
  go_wp2_with fail
  have hb := Below.alloc (Below.refl w4.heap.size w4) (Nat.le_refl _) (.cells #[.int .i64 h.id, .slice D2 m2 d2, .int .i64 h.frm, .int .i64 h.to] 36)
  have B2q := Lib.hid (boxH_new w4 h D2 m2 d2)
  have HBq := Lib.hid (HB.out.trans (hb.mono HB.out.size))
  clear HB
  have HB := HBq
  clear HBq
  have T0q := Lib.hid (T0.out.next hb)
  clear T0
  have T0 := T0q
  clear T0q
  have HHq := Lib.hid (HH.out.next hb)
  clear HH
  have HH := HHq
  clear HHq
  have BXq := Lib.hid (BX.out.next hb)
  clear BX
  have BX := BXq
  clear BXq
  have T1q := Lib.hid (T1.out.next hb)
  clear T1
  have T1 := T1q
  clear T1q
  have T2q := Lib.hid (T2.out.next hb)
  clear T2
  have T2 := T2q
  clear T2q
  have H2q := Lib.hid (H2.out.next hb)
  clear H2
  have H2 := H2q
  clear H2q
  clear hb
  have B2 := B2q
  clear B2q
  go_wp2_with fail
  refine (sameT_b T2.out T0.out (sameT_self l)).mono ?_
  rintro e w5 ⟨rfl, hb⟩
  have HBq := Lib.hid (HB.out.trans (hb.mono HB.out.size))
  clear HB
  have HB := HBq
  clear HBq
  have T0q := Lib.hid (T0.out.next hb)
  clear T0
  have T0 := T0q
  clear T0q
  have HHq := Lib.hid (HH.out.next hb)
  clear HH
  have HH := HHq
  clear HHq
  have BXq := Lib.hid (BX.out.next hb)
  clear BX
  have BX := BXq
  clear BXq
  have T1q := Lib.hid (T1.out.next hb)
  clear T1
  have T1 := T1q
  clear T1q
  have T2q := Lib.hid (T2.out.next hb)
  clear T2
  have T2 := T2q
  clear T2q
  have H2q := Lib.hid (H2.out.next hb)
  clear H2
  have H2 := H2q
  clear H2q
  have B2q := Lib.hid (B2.out.next hb)
  clear B2
  have B2 := B2q
  clear B2q
  clear hb
  have r0 := B2.out.c0
  have r1 := B2.out.c1
  have r2 := B2.out.c2
  have r3 := B2.out.c3
  have q0 := BX.out.c0
  have q1 := BX.out.c1
  have q2 := BX.out.c2
  have q3 := BX.out.c3
  go_wp2_with fail
  refine (refOne_any H2.out HH.out (sameH_iff.2 rfl)).mono ?_
  rintro e w6 ⟨rfl, hb⟩
  have HBq := Lib.hid (HB.out.trans (hb.mono HB.out.size))
  clear HB
  have HB := HBq
  clear HBq
  have T0q := Lib.hid (T0.out.next hb)
  clear T0
  have T0 := T0q
  clear T0q
  have HHq := Lib.hid (HH.out.next hb)
  clear HH
  have HH := HHq
  clear HHq
  have BXq := Lib.hid (BX.out.next hb)
  clear BX
  have BX := BXq
  clear BXq
  have T1q := Lib.hid (T1.out.next hb)
  clear T1
  have T1 := T1q
  clear T1q
  have T2q := Lib.hid (T2.out.next hb)
  clear T2
  have T2 := T2q
  clear T2q
  have H2q := Lib.hid (H2.out.next hb)
  clear H2
  have H2 := H2q
  clear H2q
  have B2q := Lib.hid (B2.out.next hb)
  clear B2
  have B2 := B2q
  clear B2q
  clear hb
  clear r0 r1 r2 r3
  clear q0 q1 q2 q3
  have q0 := BX.out.c0
  have q1 := BX.out.c1
  have q2 := BX.out.c2
  have q3 := BX.out.c3
  go_wp2_with fail
  refine (h10_cutNo H T1.out F1.out (er := 1) (by decide) CN.out).mono ?_
  rintro e w7 ⟨⟨A5, n5, c5, rfl⟩, hb⟩
  have HBq := Lib.hid (HB.out.trans (hb.mono HB.out.size))
  clear HB
  have HB := HBq
  clear HBq
  have T0q := Lib.hid (T0.out.next hb)
  clear T0
  have T0 := T0q
  clear T0q
  have HHq := Lib.hid (HH.out.next hb)
  clear HH
  have HH := HHq
  clear HHq
  have BXq := Lib.hid (BX.out.next hb)
  clear BX
  have BX := BXq
  clear BXq
  have T1q := Lib.hid (T1.out.next hb)
  clear T1
  have T1 := T1q
  clear T1q
  have T2q := Lib.hid (T2.out.next hb)
  clear T2
  have T2 := T2q
  clear T2q
  have H2q := Lib.hid (H2.out.next hb)
  clear H2
  have H2 := H2q
  clear H2q
  have B2q := Lib.hid (B2.out.next hb)
  clear B2
  have B2 := B2q
  clear B2q
  clear hb
  clear q0 q1 q2 q3
  have q0 := BX.out.c0
  have q1 := BX.out.c1
  have q2 := BX.out.c2
  have q3 := BX.out.c3
  go_wp2
  go_ret
  exact ⟨rfl, HB.out⟩

set_option maxRecDepth 100000 in
set_option maxHeartbeats 8000000 in
theorem heldBack_c2 (H : HeldOk) (A : Option Addr) (n c : Nat) (l : Tb) (A2 : Option Addr) (m c2 : Nat) (h : Hd) (z : Int) (w : World) (hl : TAsk w A n c l) (hh : HAsk w A2 m c2 h) (h0 : shortT l = true) (h60 : ¬ 60 < m) (hma : MayAdd l h) (hz : ¬ z ≤ h.frm) (hz2 : h.to < z) :
    Calls Try.prog 5 #[.slice A n c, .agg #[.int .i64 h.id, .slice A2 m c2, .int .i64 h.frm, .int .i64 h.to], .int .i64 z] w fun e w' => e = .returned (.bool true) ∧ Below w.heap.size w w' := by
  obtain ⟨W, hW⟩ : ∃ W, W = w.alloc (hO h A2 m c2) := ⟨_, rfl⟩
  have BX : Hid (BoxH W w.heap.size h A2 m c2) := Lib.hid (by rw [hW]; exact boxH_new w h A2 m c2)
  have hb0 : Below w.heap.size w W := by rw [hW]; exact (Below.refl _ _).alloc (Nat.le_refl _) _
  have HB := Lib.hid hb0
  have T0 := Lib.hid (hl.next hb0)
  have HH := Lib.hid (hh.next hb0)
  have hm2 := hh.few
  unfold maxLen at hm2
  unfold hO at hW
  have E0 := Lib.hid h0
  have F0 := Lib.hid (short_few' h0)
  have h60d : decide ((60 : Int) < (m : Int)) = false := by simp; omega
  have hmm : m ≤ 100 := by omega
  have HML := Lib.hid hh.reads.1
  have hsh := ins_short (short_is h0) (h := h) (by have := HML.out; omega)
  have F1 := Lib.hid (ins_few (short_is h0) (h := h) (by have := HML.out; omega))
  have E1 := Lib.hid (add_yes hma)
  have E2 := Lib.hid (add_ok.2 hma)
  have DE := Lib.hid hma.dropE
  have DT := Lib.hid hma.dropT
  have DG := Lib.hid (getT_add hma)
  have CE := Lib.hid (hma.cutE z)
  have CT := Lib.hid (fun h1 h2 => hma.cutT (z := z) h1 h2)
  have CR := Lib.hid (fun h1 h2 => hma.cut_right (z := z) h1 h2)
  obtain ⟨l1, e1⟩ : ∃ r, insT l h = r := ⟨_, rfl⟩
  rw [e1] at F1 E1 DE DT DG CE CT CR hsh
  have L1 := Lib.hid hsh.1
  clear hb0 hl hh h0 h60 e1 hsh
  have CN := Lib.hid (CE.out.trans (if_pos (.inr hz2)))
  have dz : decide (z ≤ h.frm) = false := decide_eq_false hz
  have dz2 : decide (h.to < z) = true := decide_eq_true hz2
  go_enter Try.func5, Try.ntmps5
  go_wp2_with fail
  rw [← hW]
  refine (awake10_any H _).mono ?_
  rintro e w1 ⟨rfl, hb⟩
  have HBq := Lib.hid (HB.out.trans (hb.mono HB.out.size))
  clear HB
  have HB := HBq
  clear HBq
  have T0q := Lib.hid (T0.out.next hb)
  clear T0
  have T0 := T0q
  clear T0q
  have HHq := Lib.hid (HH.out.next hb)
  clear HH
  have HH := HHq
  clear HHq
  have BXq := Lib.hid (BX.out.next hb)
  clear BX
  have BX := BXq
  clear BXq
  clear hb
  clear hW
  go_wp2_with fail
  refine (short_b T0.out E0.out).mono ?_
  rintro e w2 ⟨rfl, hb⟩
  have HBq := Lib.hid (HB.out.trans (hb.mono HB.out.size))
  clear HB
  have HB := HBq
  clear HBq
  have T0q := Lib.hid (T0.out.next hb)
  clear T0
  have T0 := T0q
  clear T0q
  have HHq := Lib.hid (HH.out.next hb)
  clear HH
  have HH := HHq
  clear HHq
  have BXq := Lib.hid (BX.out.next hb)
  clear BX
  have BX := BXq
  clear BXq
  clear hb
  have q0 := BX.out.c0
  have q1 := BX.out.c1
  have q2 := BX.out.c2
  have q3 := BX.out.c3
  go_wp2_with fail
  refine (h10_add H T0.out F0.out HH.out hmm E1.out E2.out).mono ?_
  rintro e w3 ⟨⟨A1, c1, rfl, hr1, hn1, hc1⟩, hb⟩
  have HBq := Lib.hid (HB.out.trans (hb.mono HB.out.size))
  clear HB
  have HB := HBq
  clear HBq
  have T0q := Lib.hid (T0.out.next hb)
  clear T0
  have T0 := T0q
  clear T0q
  have HHq := Lib.hid (HH.out.next hb)
  clear HH
  have HH := HHq
  clear HHq
  have BXq := Lib.hid (BX.out.next hb)
  clear BX
  have BX := BXq
  clear BXq
  clear hb
  have T1 := Lib.hid (ans_ask hr1 hn1 hc1 (by have := L1.out; unfold maxLen; omega))
  clear hr1 hn1 hc1
  clear q0 q1 q2 q3
  have q0 := BX.out.c0
  have q1 := BX.out.c1
  have q2 := BX.out.c2
  have q3 := BX.out.c3
  go_wp2_with fail
  refine (h10_drop H T1.out F1.out DE.out DT.out DG.out).mono ?_
  rintro e w4 ⟨⟨A2, n2, c2, D2, m2, d2, rfl, ⟨hr2, hn2, hc2⟩, hh2⟩, hb⟩
  obtain rfl := hr2.len
  have HBq := Lib.hid (HB.out.trans (hb.mono HB.out.size))
  clear HB
  have HB := HBq
  clear HBq
  have T0q := Lib.hid (T0.out.next hb)
  clear T0
  have T0 := T0q
  clear T0q
  have HHq := Lib.hid (HH.out.next hb)
  clear HH
  have HH := HHq
  clear HHq
  have BXq := Lib.hid (BX.out.next hb)
  clear BX
  have BX := BXq
  clear BXq
  have T1q := Lib.hid (T1.out.next hb)
  clear T1
  have T1 := T1q
  clear T1q
  clear hb
  have T2 := Lib.hid (ans_ask hr2 hn2 hc2 (by have := F0.out.1; unfold maxLen; omega))
  have H2 := Lib.hid hh2
  clear hr2 hn2 hc2 hh2
  clear q0 q1 q2 q3
  go_wp2_with fail
  have hb := Below.alloc (Below.refl w4.heap.size w4) (Nat.le_refl _) (.cells #[.int .i64 h.id, .slice D2 m2 d2, .int .i64 h.frm, .int .i64 h.to] 36)
  have B2q := Lib.hid (boxH_new w4 h D2 m2 d2)
  have HBq := Lib.hid (HB.out.trans (hb.mono HB.out.size))
  clear HB
  have HB := HBq
  clear HBq
  have T0q := Lib.hid (T0.out.next hb)
  clear T0
  have T0 := T0q
  clear T0q
  have HHq := Lib.hid (HH.out.next hb)
  clear HH
  have HH := HHq
  clear HHq
  have BXq := Lib.hid (BX.out.next hb)
  clear BX
  have BX := BXq
  clear BXq
  have T1q := Lib.hid (T1.out.next hb)
  clear T1
  have T1 := T1q
  clear T1q
  have T2q := Lib.hid (T2.out.next hb)
  clear T2
  have T2 := T2q
  clear T2q
  have H2q := Lib.hid (H2.out.next hb)
  clear H2
  have H2 := H2q
  clear H2q
  clear hb
  have B2 := B2q
  clear B2q
  go_wp2_with fail
  refine (sameT_b T2.out T0.out (sameT_self l)).mono ?_
  rintro e w5 ⟨rfl, hb⟩
  have HBq := Lib.hid (HB.out.trans (hb.mono HB.out.size))
  clear HB
  have HB := HBq
  clear HBq
  have T0q := Lib.hid (T0.out.next hb)
  clear T0
  have T0 := T0q
  clear T0q
  have HHq := Lib.hid (HH.out.next hb)
  clear HH
  have HH := HHq
  clear HHq
  have BXq := Lib.hid (BX.out.next hb)
  clear BX
  have BX := BXq
  clear BXq
  have T1q := Lib.hid (T1.out.next hb)
  clear T1
  have T1 := T1q
  clear T1q
  have T2q := Lib.hid (T2.out.next hb)
  clear T2
  have T2 := T2q
  clear T2q
  have H2q := Lib.hid (H2.out.next hb)
  clear H2
  have H2 := H2q
  clear H2q
  have B2q := Lib.hid (B2.out.next hb)
  clear B2
  have B2 := B2q
  clear B2q
  clear hb
  have r0 := B2.out.c0
  have r1 := B2.out.c1
  have r2 := B2.out.c2
  have r3 := B2.out.c3
  have q0 := BX.out.c0
  have q1 := BX.out.c1
  have q2 := BX.out.c2
  have q3 := BX.out.c3
  go_wp2_with fail
  refine (refOne_any H2.out HH.out (sameH_iff.2 rfl)).mono ?_
  rintro e w6 ⟨rfl, hb⟩
  have HBq := Lib.hid (HB.out.trans (hb.mono HB.out.size))
  clear HB
  have HB := HBq
  clear HBq
  have T0q := Lib.hid (T0.out.next hb)
  clear T0
  have T0 := T0q
  clear T0q
  have HHq := Lib.hid (HH.out.next hb)
  clear HH
  have HH := HHq
  clear HHq
  have BXq := Lib.hid (BX.out.next hb)
  clear BX
  have BX := BXq
  clear BXq
  have T1q := Lib.hid (T1.out.next hb)
  clear T1
  have T1 := T1q
  clear T1q
  have T2q := Lib.hid (T2.out.next hb)
  clear T2
  have T2 := T2q
  clear T2q
  have H2q := Lib.hid (H2.out.next hb)
  clear H2
  have H2 := H2q
  clear H2q
  have B2q := Lib.hid (B2.out.next hb)
  clear B2
  have B2 := B2q
  clear B2q
  clear hb
  clear r0 r1 r2 r3
  clear q0 q1 q2 q3
  have q0 := BX.out.c0
  have q1 := BX.out.c1
  have q2 := BX.out.c2
  have q3 := BX.out.c3
  go_wp2_with fail
  refine (h10_cutNo H T1.out F1.out (er := 1) (by decide) CN.out).mono ?_
  rintro e w7 ⟨⟨A5, n5, c5, rfl⟩, hb⟩
  have HBq := Lib.hid (HB.out.trans (hb.mono HB.out.size))
  clear HB
  have HB := HBq
  clear HBq
  have T0q := Lib.hid (T0.out.next hb)
  clear T0
  have T0 := T0q
  clear T0q
  have HHq := Lib.hid (HH.out.next hb)
  clear HH
  have HH := HHq
  clear HHq
  have BXq := Lib.hid (BX.out.next hb)
  clear BX
  have BX := BXq
  clear BXq
  have T1q := Lib.hid (T1.out.next hb)
  clear T1
  have T1 := T1q
  clear T1q
  have T2q := Lib.hid (T2.out.next hb)
  clear T2
  have T2 := T2q
  clear T2q
  have H2q := Lib.hid (H2.out.next hb)
  clear H2
  have H2 := H2q
  clear H2q
  have B2q := Lib.hid (B2.out.next hb)
  clear B2
  have B2 := B2q
  clear B2q
  clear hb
  clear q0 q1 q2 q3
  have q0 := BX.out.c0
  have q1 := BX.out.c1
  have q2 := BX.out.c2
  have q3 := BX.out.c3
  go_wp2
  go_ret
  exact ⟨rfl, HB.out⟩

set_option maxRecDepth 100000 in
set_option maxHeartbeats 8000000 in
theorem heldBack_cut (H : HeldOk) (A : Option Addr) (n c : Nat) (l : Tb) (A2 : Option Addr) (m c2 : Nat) (h : Hd) (z : Int) (w : World) (hl : TAsk w A n c l) (hh : HAsk w A2 m c2 h) (h0 : shortT l = true) (h60 : ¬ 60 < m) (hma : MayAdd l h) (hz : h.frm < z) (hz2 : z ≤ h.to) :
    Calls Try.prog 5 #[.slice A n c, .agg #[.int .i64 h.id, .slice A2 m c2, .int .i64 h.frm, .int .i64 h.to], .int .i64 z] w fun e w' => e = .returned (.bool true) ∧ Below w.heap.size w w' := by
  obtain ⟨W, hW⟩ : ∃ W, W = w.alloc (hO h A2 m c2) := ⟨_, rfl⟩
  have BX : Hid (BoxH W w.heap.size h A2 m c2) := Lib.hid (by rw [hW]; exact boxH_new w h A2 m c2)
  have hb0 : Below w.heap.size w W := by rw [hW]; exact (Below.refl _ _).alloc (Nat.le_refl _) _
  have HB := Lib.hid hb0
  have T0 := Lib.hid (hl.next hb0)
  have HH := Lib.hid (hh.next hb0)
  have hm2 := hh.few
  unfold maxLen at hm2
  unfold hO at hW
  have E0 := Lib.hid h0
  have F0 := Lib.hid (short_few' h0)
  have h60d : decide ((60 : Int) < (m : Int)) = false := by simp; omega
  have hmm : m ≤ 100 := by omega
  have HML := Lib.hid hh.reads.1
  have hsh := ins_short (short_is h0) (h := h) (by have := HML.out; omega)
  have F1 := Lib.hid (ins_few (short_is h0) (h := h) (by have := HML.out; omega))
  have E1 := Lib.hid (add_yes hma)
  have E2 := Lib.hid (add_ok.2 hma)
  have DE := Lib.hid hma.dropE
  have DT := Lib.hid hma.dropT
  have DG := Lib.hid (getT_add hma)
  have CE := Lib.hid (hma.cutE z)
  have CT := Lib.hid (fun h1 h2 => hma.cutT (z := z) h1 h2)
  have CR := Lib.hid (fun h1 h2 => hma.cut_right (z := z) h1 h2)
  obtain ⟨l1, e1⟩ : ∃ r, insT l h = r := ⟨_, rfl⟩
  rw [e1] at F1 E1 DE DT DG CE CT CR hsh
  have L1 := Lib.hid hsh.1
  clear hb0 hl hh h0 h60 e1 hsh
  have CN := Lib.hid (CE.out.trans (if_neg (by omega)))
  have CC0 := CT.out hz hz2
  have hcr := CR.out hz hz2
  have F5 : Hid (FewT (l1.map (shortH h.id z))) := Lib.hid (map_few (short_things _ _) F1.out)
  have hov := cut_over hcr
  have hln : (l1.map (shortH h.id z)).length = l1.length := by simp
  obtain ⟨l5, e5⟩ : ∃ r, l1.map (shortH h.id z) = r := ⟨_, rfl⟩
  rw [e5] at CC0 F5 hov hcr hln
  have CC := Lib.hid CC0
  have RR := Lib.hid hcr
  have F6 : Hid (FewT (restT l5 z)) := Lib.hid (rest_few F5.out z)
  have hol := over_len l5 z
  obtain ⟨lr, er⟩ : ∃ r, restT l5 z = r := ⟨_, rfl⟩
  obtain ⟨lg, eg⟩ : ∃ r, goneT l5 z = r := ⟨_, rfl⟩
  rw [er] at F6 hov hol
  rw [eg] at hol
  have ER := Lib.hid er
  have EG := Lib.hid eg
  have EN := Lib.hid hov
  have hg100 : lg.length ≤ 100 := by have := F5.out.1; omega
  have hr100 : lr.length ≤ 100 := by have := F5.out.1; omega
  have dl : ((lr.length : Int) + (lg.length : Int) == (l1.length : Int)) = true := by rw [beq_iff_eq]; omega
  have dl2 : (lr.length + lg.length == l1.length) = true := by rw [beq_iff_eq]; omega
  clear CC0 hcr hov e5 er eg hln hol
  go_enter Try.func5, Try.ntmps5
  go_wp2_with fail
  rw [← hW]
  refine (awake10_any H _).mono ?_
  rintro e w1 ⟨rfl, hb⟩
  have HBq := Lib.hid (HB.out.trans (hb.mono HB.out.size))
  clear HB
  have HB := HBq
  clear HBq
  have T0q := Lib.hid (T0.out.next hb)
  clear T0
  have T0 := T0q
  clear T0q
  have HHq := Lib.hid (HH.out.next hb)
  clear HH
  have HH := HHq
  clear HHq
  have BXq := Lib.hid (BX.out.next hb)
  clear BX
  have BX := BXq
  clear BXq
  clear hb
  clear hW
  go_wp2_with fail
  refine (short_b T0.out E0.out).mono ?_
  rintro e w2 ⟨rfl, hb⟩
  have HBq := Lib.hid (HB.out.trans (hb.mono HB.out.size))
  clear HB
  have HB := HBq
  clear HBq
  have T0q := Lib.hid (T0.out.next hb)
  clear T0
  have T0 := T0q
  clear T0q
  have HHq := Lib.hid (HH.out.next hb)
  clear HH
  have HH := HHq
  clear HHq
  have BXq := Lib.hid (BX.out.next hb)
  clear BX
  have BX := BXq
  clear BXq
  clear hb
  have q0 := BX.out.c0
  have q1 := BX.out.c1
  have q2 := BX.out.c2
  have q3 := BX.out.c3
  go_wp2_with fail
  refine (h10_add H T0.out F0.out HH.out hmm E1.out E2.out).mono ?_
  rintro e w3 ⟨⟨A1, c1, rfl, hr1, hn1, hc1⟩, hb⟩
  have HBq := Lib.hid (HB.out.trans (hb.mono HB.out.size))
  clear HB
  have HB := HBq
  clear HBq
  have T0q := Lib.hid (T0.out.next hb)
  clear T0
  have T0 := T0q
  clear T0q
  have HHq := Lib.hid (HH.out.next hb)
  clear HH
  have HH := HHq
  clear HHq
  have BXq := Lib.hid (BX.out.next hb)
  clear BX
  have BX := BXq
  clear BXq
  clear hb
  have T1 := Lib.hid (ans_ask hr1 hn1 hc1 (by have := L1.out; unfold maxLen; omega))
  clear hr1 hn1 hc1
  clear q0 q1 q2 q3
  have q0 := BX.out.c0
  have q1 := BX.out.c1
  have q2 := BX.out.c2
  have q3 := BX.out.c3
  go_wp2_with fail
  refine (h10_drop H T1.out F1.out DE.out DT.out DG.out).mono ?_
  rintro e w4 ⟨⟨A2, n2, c2, D2, m2, d2, rfl, ⟨hr2, hn2, hc2⟩, hh2⟩, hb⟩
  obtain rfl := hr2.len
  have HBq := Lib.hid (HB.out.trans (hb.mono HB.out.size))
  clear HB
  have HB := HBq
  clear HBq
  have T0q := Lib.hid (T0.out.next hb)
  clear T0
  have T0 := T0q
  clear T0q
  have HHq := Lib.hid (HH.out.next hb)
  clear HH
  have HH := HHq
  clear HHq
  have BXq := Lib.hid (BX.out.next hb)
  clear BX
  have BX := BXq
  clear BXq
  have T1q := Lib.hid (T1.out.next hb)
  clear T1
  have T1 := T1q
  clear T1q
  clear hb
  have T2 := Lib.hid (ans_ask hr2 hn2 hc2 (by have := F0.out.1; unfold maxLen; omega))
  have H2 := Lib.hid hh2
  clear hr2 hn2 hc2 hh2
  clear q0 q1 q2 q3
  go_wp2_with fail
  have hb := Below.alloc (Below.refl w4.heap.size w4) (Nat.le_refl _) (.cells #[.int .i64 h.id, .slice D2 m2 d2, .int .i64 h.frm, .int .i64 h.to] 36)
  have B2q := Lib.hid (boxH_new w4 h D2 m2 d2)
  have HBq := Lib.hid (HB.out.trans (hb.mono HB.out.size))
  clear HB
  have HB := HBq
  clear HBq
  have T0q := Lib.hid (T0.out.next hb)
  clear T0
  have T0 := T0q
  clear T0q
  have HHq := Lib.hid (HH.out.next hb)
  clear HH
  have HH := HHq
  clear HHq
  have BXq := Lib.hid (BX.out.next hb)
  clear BX
  have BX := BXq
  clear BXq
  have T1q := Lib.hid (T1.out.next hb)
  clear T1
  have T1 := T1q
  clear T1q
  have T2q := Lib.hid (T2.out.next hb)
  clear T2
  have T2 := T2q
  clear T2q
  have H2q := Lib.hid (H2.out.next hb)
  clear H2
  have H2 := H2q
  clear H2q
  clear hb
  have B2 := B2q
  clear B2q
  go_wp2_with fail
  refine (sameT_b T2.out T0.out (sameT_self l)).mono ?_
  rintro e w5 ⟨rfl, hb⟩
  have HBq := Lib.hid (HB.out.trans (hb.mono HB.out.size))
  clear HB
  have HB := HBq
  clear HBq
  have T0q := Lib.hid (T0.out.next hb)
  clear T0
  have T0 := T0q
  clear T0q
  have HHq := Lib.hid (HH.out.next hb)
  clear HH
  have HH := HHq
  clear HHq
  have BXq := Lib.hid (BX.out.next hb)
  clear BX
  have BX := BXq
  clear BXq
  have T1q := Lib.hid (T1.out.next hb)
  clear T1
  have T1 := T1q
  clear T1q
  have T2q := Lib.hid (T2.out.next hb)
  clear T2
  have T2 := T2q
  clear T2q
  have H2q := Lib.hid (H2.out.next hb)
  clear H2
  have H2 := H2q
  clear H2q
  have B2q := Lib.hid (B2.out.next hb)
  clear B2
  have B2 := B2q
  clear B2q
  clear hb
  have r0 := B2.out.c0
  have r1 := B2.out.c1
  have r2 := B2.out.c2
  have r3 := B2.out.c3
  have q0 := BX.out.c0
  have q1 := BX.out.c1
  have q2 := BX.out.c2
  have q3 := BX.out.c3
  go_wp2_with fail
  refine (refOne_any H2.out HH.out (sameH_iff.2 rfl)).mono ?_
  rintro e w6 ⟨rfl, hb⟩
  have HBq := Lib.hid (HB.out.trans (hb.mono HB.out.size))
  clear HB
  have HB := HBq
  clear HBq
  have T0q := Lib.hid (T0.out.next hb)
  clear T0
  have T0 := T0q
  clear T0q
  have HHq := Lib.hid (HH.out.next hb)
  clear HH
  have HH := HHq
  clear HHq
  have BXq := Lib.hid (BX.out.next hb)
  clear BX
  have BX := BXq
  clear BXq
  have T1q := Lib.hid (T1.out.next hb)
  clear T1
  have T1 := T1q
  clear T1q
  have T2q := Lib.hid (T2.out.next hb)
  clear T2
  have T2 := T2q
  clear T2q
  have H2q := Lib.hid (H2.out.next hb)
  clear H2
  have H2 := H2q
  clear H2q
  have B2q := Lib.hid (B2.out.next hb)
  clear B2
  have B2 := B2q
  clear B2q
  clear hb
  clear r0 r1 r2 r3
  clear q0 q1 q2 q3
  have q0 := BX.out.c0
  have q1 := BX.out.c1
  have q2 := BX.out.c2
  have q3 := BX.out.c3
  go_wp2_with fail
  refine (h10_cut H T1.out F1.out CN.out CC.out).mono ?_
  rintro e w7 ⟨⟨A5, c5, rfl, hr5, hn5, hc5⟩, hb⟩
  have HBq := Lib.hid (HB.out.trans (hb.mono HB.out.size))
  clear HB
  have HB := HBq
  clear HBq
  have T0q := Lib.hid (T0.out.next hb)
  clear T0
  have T0 := T0q
  clear T0q
  have HHq := Lib.hid (HH.out.next hb)
  clear HH
  have HH := HHq
  clear HHq
  have BXq := Lib.hid (BX.out.next hb)
  clear BX
  have BX := BXq
  clear BXq
  have T1q := Lib.hid (T1.out.next hb)
  clear T1
  have T1 := T1q
  clear T1q
  have T2q := Lib.hid (T2.out.next hb)
  clear T2
  have T2 := T2q
  clear T2q
  have H2q := Lib.hid (H2.out.next hb)
  clear H2
  have H2 := H2q
  clear H2q
  have B2q := Lib.hid (B2.out.next hb)
  clear B2
  have B2 := B2q
  clear B2q
  clear hb
  have T5 := Lib.hid (ans_ask hr5 hn5 hc5 (by have := F5.out.1; unfold maxLen; omega))
  clear hr5 hn5 hc5
  go_wp2_with fail
  refine (h10_over H T5.out F5.out ER.out EG.out).mono ?_
  rintro e w8 ⟨⟨A6, c6, B6, d6, rfl, hr6, hs6, ⟨hn6, hc6⟩, ⟨hp6, hd6⟩⟩, hb⟩
  have HBq := Lib.hid (HB.out.trans (hb.mono HB.out.size))
  clear HB
  have HB := HBq
  clear HBq
  have T0q := Lib.hid (T0.out.next hb)
  clear T0
  have T0 := T0q
  clear T0q
  have HHq := Lib.hid (HH.out.next hb)
  clear HH
  have HH := HHq
  clear HHq
  have BXq := Lib.hid (BX.out.next hb)
  clear BX
  have BX := BXq
  clear BXq
  have T1q := Lib.hid (T1.out.next hb)
  clear T1
  have T1 := T1q
  clear T1q
  have T2q := Lib.hid (T2.out.next hb)
  clear T2
  have T2 := T2q
  clear T2q
  have H2q := Lib.hid (H2.out.next hb)
  clear H2
  have H2 := H2q
  clear H2q
  have B2q := Lib.hid (B2.out.next hb)
  clear B2
  have B2 := B2q
  clear B2q
  have T5q := Lib.hid (T5.out.next hb)
  clear T5
  have T5 := T5q
  clear T5q
  clear hb
  have T6 := Lib.hid (ans_ask hr6 hn6 hc6 (by have := F6.out.1; unfold maxLen; omega))
  clear hr6 hs6 hn6 hc6 hp6 hd6
  clear q0 q1 q2 q3
  have q0 := BX.out.c0
  have q1 := BX.out.c1
  have q2 := BX.out.c2
  have q3 := BX.out.c3
  go_wp2_with fail
  refine (h10_get H T6.out F6.out rfl EN.out).mono ?_
  rintro e w9 ⟨⟨A7, m7, c7, rfl, hh7⟩, hb⟩
  have HBq := Lib.hid (HB.out.trans (hb.mono HB.out.size))
  clear HB
  have HB := HBq
  clear HBq
  have T0q := Lib.hid (T0.out.next hb)
  clear T0
  have T0 := T0q
  clear T0q
  have HHq := Lib.hid (HH.out.next hb)
  clear HH
  have HH := HHq
  clear HHq
  have BXq := Lib.hid (BX.out.next hb)
  clear BX
  have BX := BXq
  clear BXq
  have T1q := Lib.hid (T1.out.next hb)
  clear T1
  have T1 := T1q
  clear T1q
  have T2q := Lib.hid (T2.out.next hb)
  clear T2
  have T2 := T2q
  clear T2q
  have H2q := Lib.hid (H2.out.next hb)
  clear H2
  have H2 := H2q
  clear H2q
  have B2q := Lib.hid (B2.out.next hb)
  clear B2
  have B2 := B2q
  clear B2q
  have T5q := Lib.hid (T5.out.next hb)
  clear T5
  have T5 := T5q
  clear T5q
  have T6q := Lib.hid (T6.out.next hb)
  clear T6
  have T6 := T6q
  clear T6q
  clear hb
  have H7 := Lib.hid hh7
  clear hh7
  clear q0 q1 q2 q3
  go_wp2_with fail
  have hb := Below.alloc (Below.refl w9.heap.size w9) (Nat.le_refl _) (.cells #[.int .i64 (getT lr h.id).id, .slice A7 m7 c7, .int .i64 (getT lr h.id).frm, .int .i64 (getT lr h.id).to] 36)
  have HBq := Lib.hid (HB.out.trans (hb.mono HB.out.size))
  clear HB
  have HB := HBq
  clear HBq
  have T0q := Lib.hid (T0.out.next hb)
  clear T0
  have T0 := T0q
  clear T0q
  have HHq := Lib.hid (HH.out.next hb)
  clear HH
  have HH := HHq
  clear HHq
  have BXq := Lib.hid (BX.out.next hb)
  clear BX
  have BX := BXq
  clear BXq
  have T1q := Lib.hid (T1.out.next hb)
  clear T1
  have T1 := T1q
  clear T1q
  have T2q := Lib.hid (T2.out.next hb)
  clear T2
  have T2 := T2q
  clear T2q
  have H2q := Lib.hid (H2.out.next hb)
  clear H2
  have H2 := H2q
  clear H2q
  have B2q := Lib.hid (B2.out.next hb)
  clear B2
  have B2 := B2q
  clear B2q
  have T5q := Lib.hid (T5.out.next hb)
  clear T5
  have T5 := T5q
  clear T5q
  have T6q := Lib.hid (T6.out.next hb)
  clear T6
  have T6 := T6q
  clear T6q
  have H7q := Lib.hid (H7.out.next hb)
  clear H7
  have H7 := H7q
  clear H7q
  clear hb
  go_wp2_with fail
  refine (h10_right H T5.out F5.out RR.out).mono ?_
  rintro e w10 ⟨rfl, hb⟩
  have HBq := Lib.hid (HB.out.trans (hb.mono HB.out.size))
  clear HB
  have HB := HBq
  clear HBq
  have T0q := Lib.hid (T0.out.next hb)
  clear T0
  have T0 := T0q
  clear T0q
  have HHq := Lib.hid (HH.out.next hb)
  clear HH
  have HH := HHq
  clear HHq
  have BXq := Lib.hid (BX.out.next hb)
  clear BX
  have BX := BXq
  clear BXq
  have T1q := Lib.hid (T1.out.next hb)
  clear T1
  have T1 := T1q
  clear T1q
  have T2q := Lib.hid (T2.out.next hb)
  clear T2
  have T2 := T2q
  clear T2q
  have H2q := Lib.hid (H2.out.next hb)
  clear H2
  have H2 := H2q
  clear H2q
  have B2q := Lib.hid (B2.out.next hb)
  clear B2
  have B2 := B2q
  clear B2q
  have T5q := Lib.hid (T5.out.next hb)
  clear T5
  have T5 := T5q
  clear T5q
  have T6q := Lib.hid (T6.out.next hb)
  clear T6
  have T6 := T6q
  clear T6q
  have H7q := Lib.hid (H7.out.next hb)
  clear H7
  have H7 := H7q
  clear H7q
  clear hb
  go_wp2
  go_ret
  exact ⟨rfl, HB.out⟩


theorem heldBack_walk (H : HeldOk) (A : Option Addr) (n c : Nat) (l : Tb) (A2 : Option Addr) (m c2 : Nat) (h : Hd) (z : Int) (w : World) (hl : TAsk w A n c l) (hh : HAsk w A2 m c2 h) : Calls Try.prog 5 #[.slice A n c, .agg #[.int .i64 h.id, .slice A2 m c2, .int .i64 h.frm, .int .i64 h.to], .int .i64 z] w fun e w' => e = .returned (.bool true) ∧ Below w.heap.size w w' := by
  cases h0 : shortT l with
  | false => exact heldBack_l0 H A n c l A2 m c2 h z w hl hh h0
  | true =>
    by_cases h60 : 60 < m
    · exact heldBack_l1 H A n c l A2 m c2 h z w hl hh h0 h60
    · by_cases he : addE l h = 0
      · have hma := add_ok.1 he
        by_cases hz : z ≤ h.frm
        · exact heldBack_c1 H A n c l A2 m c2 h z w hl hh h0 h60 hma hz
        · by_cases hz2 : h.to < z
          · exact heldBack_c2 H A n c l A2 m c2 h z w hl hh h0 h60 hma hz hz2
          · exact heldBack_cut H A n c l A2 m c2 h z w hl hh h0 h60 hma (by omega) (by omega)
      · exact heldBack_no H A n c l A2 m c2 h z w hl hh h0 h60 he

end Go.Proofs.Ytbiofikijehlcaa
