/- The statement HeldGets, as a walk over the contracts: of any table and two holdings the call returns true. Written by gen/gen_heldlaws.py. -/
import Derived.Test.YtbiofikijehlcaaMg04
import Derived.Test.YtbiofikijehlcaaMg07
namespace Go.Proofs.Ytbiofikijehlcaa
open Go.RowKit

set_option maxRecDepth 100000 in
set_option maxHeartbeats 8000000 in
theorem heldGets_l0 (H : HeldOk) (A : Option Addr) (n c : Nat) (l : Tb) (A2 : Option Addr) (m c2 : Nat) (h : Hd) (A3 : Option Addr) (m3 c3 : Nat) (g : Hd) (w : World) (hl : TAsk w A n c l) (hh : HAsk w A2 m c2 h) (hg : HAsk w A3 m3 c3 g) (h0 : shortT l = false) :
    Calls Try.prog 6 #[.slice A n c, .agg #[.int .i64 h.id, .slice A2 m c2, .int .i64 h.frm, .int .i64 h.to], .agg #[.int .i64 g.id, .slice A3 m3 c3, .int .i64 g.frm, .int .i64 g.to]] w fun e w' => e = .returned (.bool true) ∧ Below w.heap.size w w' := by
  obtain ⟨W, hW⟩ : ∃ W, W = (w.alloc (hO h A2 m c2)).alloc (hO g A3 m3 c3) := ⟨_, rfl⟩
  have BX : Hid (BoxH W w.heap.size h A2 m c2) := Lib.hid (by rw [hW]; exact (boxH_new w h A2 m c2).next ((Below.refl _ _).alloc (Nat.le_refl _) _))
  have BY : Hid (BoxH W (w.heap.size + 1) g A3 m3 c3) := Lib.hid (by
    have := boxH_new (w.alloc (hO h A2 m c2)) g A3 m3 c3
    rw [show (w.alloc (hO h A2 m c2)).heap.size = w.heap.size + 1 by simp] at this
    rw [hW]; exact this)
  have hb0 : Below w.heap.size w W := by rw [hW]; exact ((Below.refl _ _).alloc (Nat.le_refl _) _).alloc (by simp) _
  have HB := Lib.hid hb0
  have T0 := Lib.hid (hl.next hb0)
  have HH := Lib.hid (hh.next hb0)
  have GG := Lib.hid (hg.next hb0)
  have hm2 := hh.few
  have hm3 := hg.few
  unfold maxLen at hm2 hm3
  unfold hO at hW
  have E0 := Lib.hid h0
  clear hb0 hl hh hg HH GG BX BY h0
  go_enter Try.func6, Try.ntmps6
  go_wp2_with fail
  rw [← hW]
  refine (awake10_any H _).mono ?_
  rintro e w1 ⟨rfl, hb⟩
  have HBq := Lib.hid (HB.out.trans (hb.mono HB.out.size))
  clear HB
  have HB := HBq
  clear HBq
  have T0q := Lib.hid (T0.out.next hb)
  clear T0
  have T0 := T0q
  clear T0q
  clear hb
  clear hW
  go_wp2_with fail
  refine (short_b T0.out E0.out).mono ?_
  rintro e w2 ⟨rfl, hb⟩
  have HBq := Lib.hid (HB.out.trans (hb.mono HB.out.size))
  clear HB
  have HB := HBq
  clear HBq
  have T0q := Lib.hid (T0.out.next hb)
  clear T0
  have T0 := T0q
  clear T0q
  clear hb
  go_wp2
  go_ret
  exact ⟨rfl, HB.out⟩

set_option maxRecDepth 100000 in
set_option maxHeartbeats 8000000 in
theorem heldGets_l1 (H : HeldOk) (A : Option Addr) (n c : Nat) (l : Tb) (A2 : Option Addr) (m c2 : Nat) (h : Hd) (A3 : Option Addr) (m3 c3 : Nat) (g : Hd) (w : World) (hl : TAsk w A n c l) (hh : HAsk w A2 m c2 h) (hg : HAsk w A3 m3 c3 g) (h0 : shortT l = true) (h60 : 60 < m) :
    Calls Try.prog 6 #[.slice A n c, .agg #[.int .i64 h.id, .slice A2 m c2, .int .i64 h.frm, .int .i64 h.to], .agg #[.int .i64 g.id, .slice A3 m3 c3, .int .i64 g.frm, .int .i64 g.to]] w fun e w' => e = .returned (.bool true) ∧ Below w.heap.size w w' := by
  obtain ⟨W, hW⟩ : ∃ W, W = (w.alloc (hO h A2 m c2)).alloc (hO g A3 m3 c3) := ⟨_, rfl⟩
  have BX : Hid (BoxH W w.heap.size h A2 m c2) := Lib.hid (by rw [hW]; exact (boxH_new w h A2 m c2).next ((Below.refl _ _).alloc (Nat.le_refl _) _))
  have BY : Hid (BoxH W (w.heap.size + 1) g A3 m3 c3) := Lib.hid (by
    have := boxH_new (w.alloc (hO h A2 m c2)) g A3 m3 c3
    rw [show (w.alloc (hO h A2 m c2)).heap.size = w.heap.size + 1 by simp] at this
    rw [hW]; exact this)
  have hb0 : Below w.heap.size w W := by rw [hW]; exact ((Below.refl _ _).alloc (Nat.le_refl _) _).alloc (by simp) _
  have HB := Lib.hid hb0
  have T0 := Lib.hid (hl.next hb0)
  have HH := Lib.hid (hh.next hb0)
  have GG := Lib.hid (hg.next hb0)
  have hm2 := hh.few
  have hm3 := hg.few
  unfold maxLen at hm2 hm3
  unfold hO at hW
  have E0 := Lib.hid h0
  have h60d : decide ((60 : Int) < (m : Int)) = true := by simp; omega
  clear hb0 hl hh hg HH GG h0
  go_enter Try.func6, Try.ntmps6
  go_wp2_with fail
  rw [← hW]
  refine (awake10_any H _).mono ?_
  rintro e w1 ⟨rfl, hb⟩
  have HBq := Lib.hid (HB.out.trans (hb.mono HB.out.size))
  clear HB
  have HB := HBq
  clear HBq
  have T0q := Lib.hid (T0.out.next hb)
  clear T0
  have T0 := T0q
  clear T0q
  have BXq := Lib.hid (BX.out.next hb)
  clear BX
  have BX := BXq
  clear BXq
  have BYq := Lib.hid (BY.out.next hb)
  clear BY
  have BY := BYq
  clear BYq
  clear hb
  clear hW
  go_wp2_with fail
  refine (short_b T0.out E0.out).mono ?_
  rintro e w2 ⟨rfl, hb⟩
  have HBq := Lib.hid (HB.out.trans (hb.mono HB.out.size))
  clear HB
  have HB := HBq
  clear HBq
  have T0q := Lib.hid (T0.out.next hb)
  clear T0
  have T0 := T0q
  clear T0q
  have BXq := Lib.hid (BX.out.next hb)
  clear BX
  have BX := BXq
  clear BXq
  have BYq := Lib.hid (BY.out.next hb)
  clear BY
  have BY := BYq
  clear BYq
  clear hb
  have q0 := BX.out.c0
  have q1 := BX.out.c1
  have q2 := BX.out.c2
  have q3 := BX.out.c3
  have r0 := BY.out.c0
  have r1 := BY.out.c1
  have r2 := BY.out.c2
  have r3 := BY.out.c3
  go_wp2
  go_ret
  exact ⟨rfl, HB.out⟩

set_option maxRecDepth 100000 in
set_option maxHeartbeats 8000000 in
theorem heldGets_l2 (H : HeldOk) (A : Option Addr) (n c : Nat) (l : Tb) (A2 : Option Addr) (m c2 : Nat) (h : Hd) (A3 : Option Addr) (m3 c3 : Nat) (g : Hd) (w : World) (hl : TAsk w A n c l) (hh : HAsk w A2 m c2 h) (hg : HAsk w A3 m3 c3 g) (h0 : shortT l = true) (h60 : ¬ 60 < m) (h63 : 60 < m3) :
    Calls Try.prog 6 #[.slice A n c, .agg #[.int .i64 h.id, .slice A2 m c2, .int .i64 h.frm, .int .i64 h.to], .agg #[.int .i64 g.id, .slice A3 m3 c3, .int .i64 g.frm, .int .i64 g.to]] w fun e w' => e = .returned (.bool true) ∧ Below w.heap.size w w' := by
  obtain ⟨W, hW⟩ : ∃ W, W = (w.alloc (hO h A2 m c2)).alloc (hO g A3 m3 c3) := ⟨_, rfl⟩
  have BX : Hid (BoxH W w.heap.size h A2 m c2) := Lib.hid (by rw [hW]; exact (boxH_new w h A2 m c2).next ((Below.refl _ _).alloc (Nat.le_refl _) _))
  have BY : Hid (BoxH W (w.heap.size + 1) g A3 m3 c3) := Lib.hid (by
    have := boxH_new (w.alloc (hO h A2 m c2)) g A3 m3 c3
    rw [show (w.alloc (hO h A2 m c2)).heap.size = w.heap.size + 1 by simp] at this
    rw [hW]; exact this)
  have hb0 : Below w.heap.size w W := by rw [hW]; exact ((Below.refl _ _).alloc (Nat.le_refl _) _).alloc (by simp) _
  have HB := Lib.hid hb0
  have T0 := Lib.hid (hl.next hb0)
  have HH := Lib.hid (hh.next hb0)
  have GG := Lib.hid (hg.next hb0)
  have hm2 := hh.few
  have hm3 := hg.few
  unfold maxLen at hm2 hm3
  unfold hO at hW
  have E0 := Lib.hid h0
  have h60d : decide ((60 : Int) < (m : Int)) = false := by simp; omega
  have h63d : decide ((60 : Int) < (m3 : Int)) = true := by simp; omega
  clear hb0 hl hh hg HH GG h0
  go_enter Try.func6, Try.ntmps6
  go_wp2_with fail
  rw [← hW]
  refine (awake10_any H _).mono ?_
  rintro e w1 ⟨rfl, hb⟩
  have HBq := Lib.hid (HB.out.trans (hb.mono HB.out.size))
  clear HB
  have HB := HBq
  clear HBq
  have T0q := Lib.hid (T0.out.next hb)
  clear T0
  have T0 := T0q
  clear T0q
  have BXq := Lib.hid (BX.out.next hb)
  clear BX
  have BX := BXq
  clear BXq
  have BYq := Lib.hid (BY.out.next hb)
  clear BY
  have BY := BYq
  clear BYq
  clear hb
  clear hW
  go_wp2_with fail
  refine (short_b T0.out E0.out).mono ?_
  rintro e w2 ⟨rfl, hb⟩
  have HBq := Lib.hid (HB.out.trans (hb.mono HB.out.size))
  clear HB
  have HB := HBq
  clear HBq
  have T0q := Lib.hid (T0.out.next hb)
  clear T0
  have T0 := T0q
  clear T0q
  have BXq := Lib.hid (BX.out.next hb)
  clear BX
  have BX := BXq
  clear BXq
  have BYq := Lib.hid (BY.out.next hb)
  clear BY
  have BY := BYq
  clear BYq
  clear hb
  have q0 := BX.out.c0
  have q1 := BX.out.c1
  have q2 := BX.out.c2
  have q3 := BX.out.c3
  have r0 := BY.out.c0
  have r1 := BY.out.c1
  have r2 := BY.out.c2
  have r3 := BY.out.c3
  go_wp2
  go_ret
  exact ⟨rfl, HB.out⟩

set_option maxRecDepth 100000 in
set_option maxHeartbeats 8000000 in
theorem heldGets_no (H : HeldOk) (A : Option Addr) (n c : Nat) (l : Tb) (A2 : Option Addr) (m c2 : Nat) (h : Hd) (A3 : Option Addr) (m3 c3 : Nat) (g : Hd) (w : World) (hl : TAsk w A n c l) (hh : HAsk w A2 m c2 h) (hg : HAsk w A3 m3 c3 g) (h0 : shortT l = true) (h60 : ¬ 60 < m) (h63 : ¬ 60 < m3) (he : addE l h ≠ 0) :
    Calls Try.prog 6 #[.slice A n c, .agg #[.int .i64 h.id, .slice A2 m c2, .int .i64 h.frm, .int .i64 h.to], .agg #[.int .i64 g.id, .slice A3 m3 c3, .int .i64 g.frm, .int .i64 g.to]] w fun e w' => e = .returned (.bool true) ∧ Below w.heap.size w w' := by
  obtain ⟨W, hW⟩ : ∃ W, W = (w.alloc (hO h A2 m c2)).alloc (hO g A3 m3 c3) := ⟨_, rfl⟩
  have BX : Hid (BoxH W w.heap.size h A2 m c2) := Lib.hid (by rw [hW]; exact (boxH_new w h A2 m c2).next ((Below.refl _ _).alloc (Nat.le_refl _) _))
  have BY : Hid (BoxH W (w.heap.size + 1) g A3 m3 c3) := Lib.hid (by
    have := boxH_new (w.alloc (hO h A2 m c2)) g A3 m3 c3
    rw [show (w.alloc (hO h A2 m c2)).heap.size = w.heap.size + 1 by simp] at this
    rw [hW]; exact this)
  have hb0 : Below w.heap.size w W := by rw [hW]; exact ((Below.refl _ _).alloc (Nat.le_refl _) _).alloc (by simp) _
  have HB := Lib.hid hb0
  have T0 := Lib.hid (hl.next hb0)
  have HH := Lib.hid (hh.next hb0)
  have GG := Lib.hid (hg.next hb0)
  have hm2 := hh.few
  have hm3 := hg.few
  unfold maxLen at hm2 hm3
  unfold hO at hW
  have E0 := Lib.hid h0
  have F0 := Lib.hid (short_few' h0)
  have HSB := Lib.hid (short_is h0)
  have HL := Lib.hid hl.reads.len
  have hn30 : n ≤ 30 := by rw [← HL.out]; exact HSB.out.1
  have h60d : decide ((60 : Int) < (m : Int)) = false := by simp; omega
  have h63d : decide ((60 : Int) < (m3 : Int)) = false := by simp; omega
  have hmm : m ≤ 100 := by omega
  have hmm3 : m3 ≤ 100 := by omega
  have HM := Lib.hid hh.reads.1
  have GM := Lib.hid hg.reads.1
  have E1 := Lib.hid (add_no he)
  have L1 := Lib.hid F0.out.1
  obtain ⟨er, e2⟩ : ∃ v, addE l h = v := ⟨_, rfl⟩
  rw [e2] at he
  have E2 := Lib.hid e2
  have d1 : (er == 0) = false := beq_eq_false_iff_ne.2 he
  have d2 : (er != 0) = true := bne_iff_ne.2 he
  clear hb0 hl hh hg h0 h60 h63 e2
  go_enter Try.func6, Try.ntmps6
  go_wp2_with fail
  rw [← hW]
  refine (awake10_any H _).mono ?_
  rintro e w1 ⟨rfl, hb⟩
  have HBq := Lib.hid (HB.out.trans (hb.mono HB.out.size))
  clear HB
  have HB := HBq
  clear HBq
  have T0q := Lib.hid (T0.out.next hb)
  clear T0
  have T0 := T0q
  clear T0q
  have HHq := Lib.hid (HH.out.next hb)
  clear HH
  have HH := HHq
  clear HHq
  have GGq := Lib.hid (GG.out.next hb)
  clear GG
  have GG := GGq
  clear GGq
  have BXq := Lib.hid (BX.out.next hb)
  clear BX
  have BX := BXq
  clear BXq
  have BYq := Lib.hid (BY.out.next hb)
  clear BY
  have BY := BYq
  clear BYq
  clear hb
  clear hW
  go_wp2_with fail
  refine (short_b T0.out E0.out).mono ?_
  rintro e w2 ⟨rfl, hb⟩
  have HBq := Lib.hid (HB.out.trans (hb.mono HB.out.size))
  clear HB
  have HB := HBq
  clear HBq
  have T0q := Lib.hid (T0.out.next hb)
  clear T0
  have T0 := T0q
  clear T0q
  have HHq := Lib.hid (HH.out.next hb)
  clear HH
  have HH := HHq
  clear HHq
  have GGq := Lib.hid (GG.out.next hb)
  clear GG
  have GG := GGq
  clear GGq
  have BXq := Lib.hid (BX.out.next hb)
  clear BX
  have BX := BXq
  clear BXq
  have BYq := Lib.hid (BY.out.next hb)
  clear BY
  have BY := BYq
  clear BYq
  clear hb
  have q0 := BX.out.c0
  have q1 := BX.out.c1
  have q2 := BX.out.c2
  have q3 := BX.out.c3
  have r0 := BY.out.c0
  have r1 := BY.out.c1
  have r2 := BY.out.c2
  have r3 := BY.out.c3
  go_wp2_with fail
  refine (h10_add H T0.out F0.out HH.out hmm E1.out E2.out).mono ?_
  rintro e w3 ⟨⟨A11, c11, rfl, hr11, hn11, hc11⟩, hb⟩
  have HBq := Lib.hid (HB.out.trans (hb.mono HB.out.size))
  clear HB
  have HB := HBq
  clear HBq
  have T0q := Lib.hid (T0.out.next hb)
  clear T0
  have T0 := T0q
  clear T0q
  have HHq := Lib.hid (HH.out.next hb)
  clear HH
  have HH := HHq
  clear HHq
  have GGq := Lib.hid (GG.out.next hb)
  clear GG
  have GG := GGq
  clear GGq
  have BXq := Lib.hid (BX.out.next hb)
  clear BX
  have BX := BXq
  clear BXq
  have BYq := Lib.hid (BY.out.next hb)
  clear BY
  have BY := BYq
  clear BYq
  clear hb
  have T1 := Lib.hid (ans_ask hr11 hn11 hc11 (by have := L1.out; unfold maxLen; omega))
  clear hr11 hn11 hc11
  clear q0 q1 q2 q3 r0 r1 r2 r3
  have q0 := BX.out.c0
  have q1 := BX.out.c1
  have q2 := BX.out.c2
  have q3 := BX.out.c3
  have r0 := BY.out.c0
  have r1 := BY.out.c1
  have r2 := BY.out.c2
  have r3 := BY.out.c3
  go_wp2
  go_ret
  exact ⟨rfl, HB.out⟩

set_option maxRecDepth 100000 in
set_option maxHeartbeats 8000000 in
theorem heldGets_ff (H : HeldOk) (A : Option Addr) (n c : Nat) (l : Tb) (A2 : Option Addr) (m c2 : Nat) (h : Hd) (A3 : Option Addr) (m3 c3 : Nat) (g : Hd) (w : World) (hl : TAsk w A n c l) (hh : HAsk w A2 m c2 h) (hg : HAsk w A3 m3 c3 g) (h0 : shortT l = true) (h60 : ¬ 60 < m) (h63 : ¬ 60 < m3) (hma : MayAdd l h) (hfa : MayAdd (insT l h) g) (hgb : MayAdd l g) (hka : MayAdd (insT l g) h) :
    Calls Try.prog 6 #[.slice A n c, .agg #[.int .i64 h.id, .slice A2 m c2, .int .i64 h.frm, .int .i64 h.to], .agg #[.int .i64 g.id, .slice A3 m3 c3, .int .i64 g.frm, .int .i64 g.to]] w fun e w' => e = .returned (.bool true) ∧ Below w.heap.size w w' := by
  obtain ⟨W, hW⟩ : ∃ W, W = (w.alloc (hO h A2 m c2)).alloc (hO g A3 m3 c3) := ⟨_, rfl⟩
  have BX : Hid (BoxH W w.heap.size h A2 m c2) := Lib.hid (by rw [hW]; exact (boxH_new w h A2 m c2).next ((Below.refl _ _).alloc (Nat.le_refl _) _))
  have BY : Hid (BoxH W (w.heap.size + 1) g A3 m3 c3) := Lib.hid (by
    have := boxH_new (w.alloc (hO h A2 m c2)) g A3 m3 c3
    rw [show (w.alloc (hO h A2 m c2)).heap.size = w.heap.size + 1 by simp] at this
    rw [hW]; exact this)
  have hb0 : Below w.heap.size w W := by rw [hW]; exact ((Below.refl _ _).alloc (Nat.le_refl _) _).alloc (by simp) _
  have HB := Lib.hid hb0
  have T0 := Lib.hid (hl.next hb0)
  have HH := Lib.hid (hh.next hb0)
  have GG := Lib.hid (hg.next hb0)
  have hm2 := hh.few
  have hm3 := hg.few
  unfold maxLen at hm2 hm3
  unfold hO at hW
  have E0 := Lib.hid h0
  have F0 := Lib.hid (short_few' h0)
  have HSB := Lib.hid (short_is h0)
  have HL := Lib.hid hl.reads.len
  have hn30 : n ≤ 30 := by rw [← HL.out]; exact HSB.out.1
  have h60d : decide ((60 : Int) < (m : Int)) = false := by simp; omega
  have h63d : decide ((60 : Int) < (m3 : Int)) = false := by simp; omega
  have hmm : m ≤ 100 := by omega
  have hmm3 : m3 ≤ 100 := by omega
  have HM := Lib.hid hh.reads.1
  have GM := Lib.hid hg.reads.1
  have L10 := ins_short HSB.out (h := h) (by have := HM.out; omega)
  have F10 := ins_few HSB.out (h := h) (by have := HM.out; omega)
  have hlen : (insT l h).length = n + 1 := by rw [ins_len hma.new, HL.out]
  have GO : Hid (∀ x ∈ l, getT (insT l h) x.id = x) := Lib.hid (fun x hx => getT_old hma hx)
  have GT : Hid (∀ x ∈ l, gotT (insT l h) x.id = true) := Lib.hid (fun x hx => hma.gotOld hx)
  have DG := Lib.hid (getT_add hma)
  have DT := Lib.hid hma.gotT
  have E1 := Lib.hid (add_yes hma)
  have E2 := Lib.hid (add_ok.2 hma)
  obtain ⟨l1, e1⟩ : ∃ r, insT l h = r := ⟨_, rfl⟩
  rw [e1] at L10 F10 hlen GO GT DG DT E1
  have d9 : ((l1.length : Int) != (n : Int) + 1) = false := by rw [bne_eq_false_iff_eq]; omega
  have d9' : (l1.length != n + 1) = false := by rw [bne_eq_false_iff_eq]; omega
  have L1 := Lib.hid L10.1
  have F1 := Lib.hid F10
  have hl1 : l1.length ≤ 31 := L10.1
  have hsw := hma.swap hgb hfa hka
  rw [e1] at hfa hsw
  have EA1 := Lib.hid (add_yes hfa)
  have EA2 := Lib.hid (add_ok.2 hfa)
  have FZ0 := ins_few HSB.out (h := g) (by have := GM.out; omega)
  have EB1 := Lib.hid (add_yes hgb)
  have EB2 := Lib.hid (add_ok.2 hgb)
  have EC10 := add_yes hka
  rw [← hsw] at EC10
  have EC1 := Lib.hid EC10
  have EC2 := Lib.hid (add_ok.2 hka)
  have FY0 : (insT l1 g).length ≤ 100 := by rw [ins_len hfa.new]; omega
  obtain ⟨ly, ey⟩ : ∃ r, insT l1 g = r := ⟨_, rfl⟩
  obtain ⟨lz, ez⟩ : ∃ r, insT l g = r := ⟨_, rfl⟩
  rw [ey] at FY0 EA1 EC1
  rw [ez] at FZ0 EB1 EC1 EC2
  have FY := Lib.hid FY0
  have FW := Lib.hid FY0
  have FZ := Lib.hid FZ0
  clear hfa hgb hka hsw EC10 FY0 FZ0 ey ez hma
  clear hb0 hl hh hg h0 h60 h63 e1 L10 F10 hlen
  go_enter Try.func6, Try.ntmps6
  go_wp2_with fail
  rw [← hW]
  refine (awake10_any H _).mono ?_
  rintro e w1 ⟨rfl, hb⟩
  have HBq := Lib.hid (HB.out.trans (hb.mono HB.out.size))
  clear HB
  have HB := HBq
  clear HBq
  have T0q := Lib.hid (T0.out.next hb)
  clear T0
  have T0 := T0q
  clear T0q
  have HHq := Lib.hid (HH.out.next hb)
  clear HH
  have HH := HHq
  clear HHq
  have GGq := Lib.hid (GG.out.next hb)
  clear GG
  have GG := GGq
  clear GGq
  have BXq := Lib.hid (BX.out.next hb)
  clear BX
  have BX := BXq
  clear BXq
  have BYq := Lib.hid (BY.out.next hb)
  clear BY
  have BY := BYq
  clear BYq
  clear hb
  clear hW
  go_wp2_with fail
  refine (short_b T0.out E0.out).mono ?_
  rintro e w2 ⟨rfl, hb⟩
  have HBq := Lib.hid (HB.out.trans (hb.mono HB.out.size))
  clear HB
  have HB := HBq
  clear HBq
  have T0q := Lib.hid (T0.out.next hb)
  clear T0
  have T0 := T0q
  clear T0q
  have HHq := Lib.hid (HH.out.next hb)
  clear HH
  have HH := HHq
  clear HHq
  have GGq := Lib.hid (GG.out.next hb)
  clear GG
  have GG := GGq
  clear GGq
  have BXq := Lib.hid (BX.out.next hb)
  clear BX
  have BX := BXq
  clear BXq
  have BYq := Lib.hid (BY.out.next hb)
  clear BY
  have BY := BYq
  clear BYq
  clear hb
  have q0 := BX.out.c0
  have q1 := BX.out.c1
  have q2 := BX.out.c2
  have q3 := BX.out.c3
  have r0 := BY.out.c0
  have r1 := BY.out.c1
  have r2 := BY.out.c2
  have r3 := BY.out.c3
  go_wp2_with fail
  refine (h10_add H T0.out F0.out HH.out hmm E1.out E2.out).mono ?_
  rintro e w3 ⟨⟨A11, c11, rfl, hr11, hn11, hc11⟩, hb⟩
  have HBq := Lib.hid (HB.out.trans (hb.mono HB.out.size))
  clear HB
  have HB := HBq
  clear HBq
  have T0q := Lib.hid (T0.out.next hb)
  clear T0
  have T0 := T0q
  clear T0q
  have HHq := Lib.hid (HH.out.next hb)
  clear HH
  have HH := HHq
  clear HHq
  have GGq := Lib.hid (GG.out.next hb)
  clear GG
  have GG := GGq
  clear GGq
  have BXq := Lib.hid (BX.out.next hb)
  clear BX
  have BX := BXq
  clear BXq
  have BYq := Lib.hid (BY.out.next hb)
  clear BY
  have BY := BYq
  clear BYq
  clear hb
  have T1 := Lib.hid (ans_ask hr11 hn11 hc11 (by have := L1.out; unfold maxLen; omega))
  clear hr11 hn11 hc11
  clear q0 q1 q2 q3 r0 r1 r2 r3
  have q0 := BX.out.c0
  have q1 := BX.out.c1
  have q2 := BX.out.c2
  have q3 := BX.out.c3
  have r0 := BY.out.c0
  have r1 := BY.out.c1
  have r2 := BY.out.c2
  have r3 := BY.out.c3
  go_wp2_with fail
  refine (h10_get H T1.out F1.out DG.out DT.out).mono ?_
  rintro e w4 ⟨⟨A12, m12, c12, rfl, hh12⟩, hb⟩
  have HBq := Lib.hid (HB.out.trans (hb.mono HB.out.size))
  clear HB
  have HB := HBq
  clear HBq
  have T0q := Lib.hid (T0.out.next hb)
  clear T0
  have T0 := T0q
  clear T0q
  have HHq := Lib.hid (HH.out.next hb)
  clear HH
  have HH := HHq
  clear HHq
  have GGq := Lib.hid (GG.out.next hb)
  clear GG
  have GG := GGq
  clear GGq
  have BXq := Lib.hid (BX.out.next hb)
  clear BX
  have BX := BXq
  clear BXq
  have BYq := Lib.hid (BY.out.next hb)
  clear BY
  have BY := BYq
  clear BYq
  have T1q := Lib.hid (T1.out.next hb)
  clear T1
  have T1 := T1q
  clear T1q
  clear hb
  have H2 := Lib.hid hh12
  clear hh12
  clear q0 q1 q2 q3 r0 r1 r2 r3
  have hb := Below.alloc (Below.refl w4.heap.size w4) (Nat.le_refl _) (.cells #[.int .i64 h.id, .slice A12 m12 c12, .int .i64 h.frm, .int .i64 h.to] 36)
  have B2q := Lib.hid (boxH_new w4 h A12 m12 c12)
  have HBq := Lib.hid (HB.out.trans (hb.mono HB.out.size))
  clear HB
  have HB := HBq
  clear HBq
  have T0q := Lib.hid (T0.out.next hb)
  clear T0
  have T0 := T0q
  clear T0q
  have HHq := Lib.hid (HH.out.next hb)
  clear HH
  have HH := HHq
  clear HHq
  have GGq := Lib.hid (GG.out.next hb)
  clear GG
  have GG := GGq
  clear GGq
  have BXq := Lib.hid (BX.out.next hb)
  clear BX
  have BX := BXq
  clear BXq
  have BYq := Lib.hid (BY.out.next hb)
  clear BY
  have BY := BYq
  clear BYq
  have T1q := Lib.hid (T1.out.next hb)
  clear T1
  have T1 := T1q
  clear T1q
  have H2q := Lib.hid (H2.out.next hb)
  clear H2
  have H2 := H2q
  clear H2q
  clear hb
  have B2 := B2q
  clear B2q
  have s0 := B2.out.c0
  have s1 := B2.out.c1
  have s2 := B2.out.c2
  have s3 := B2.out.c3
  have q0 := BX.out.c0
  have q1 := BX.out.c1
  have q2 := BX.out.c2
  have q3 := BX.out.c3
  have r0 := BY.out.c0
  have r1 := BY.out.c1
  have r2 := BY.out.c2
  have r3 := BY.out.c3
  go_wp2_with fail
  refine (refOne_any H2.out HH.out (sameH_iff.2 rfl)).mono ?_
  rintro e w5 ⟨rfl, hb⟩
  have HBq := Lib.hid (HB.out.trans (hb.mono HB.out.size))
  clear HB
  have HB := HBq
  clear HBq
  have T0q := Lib.hid (T0.out.next hb)
  clear T0
  have T0 := T0q
  clear T0q
  have HHq := Lib.hid (HH.out.next hb)
  clear HH
  have HH := HHq
  clear HHq
  have GGq := Lib.hid (GG.out.next hb)
  clear GG
  have GG := GGq
  clear GGq
  have BXq := Lib.hid (BX.out.next hb)
  clear BX
  have BX := BXq
  clear BXq
  have BYq := Lib.hid (BY.out.next hb)
  clear BY
  have BY := BYq
  clear BYq
  have T1q := Lib.hid (T1.out.next hb)
  clear T1
  have T1 := T1q
  clear T1q
  have H2q := Lib.hid (H2.out.next hb)
  clear H2
  have H2 := H2q
  clear H2q
  have B2q := Lib.hid (B2.out.next hb)
  clear B2
  have B2 := B2q
  clear B2q
  clear hb
  clear s0 s1 s2 s3
  clear q0 q1 q2 q3 r0 r1 r2 r3
  have q0 := BX.out.c0
  have q1 := BX.out.c1
  have q2 := BX.out.c2
  have q3 := BX.out.c3
  have r0 := BY.out.c0
  have r1 := BY.out.c1
  have r2 := BY.out.c2
  have r3 := BY.out.c3
  clear B2
  clear H2
  go_wp2
  go_loopw [11] (fun kv wr => ∃ k : Nat, k ≤ n ∧ kv = .int .i64 k ∧ Below w5.heap.size w5 wr) (fun kv _ => n - (intOf kv).toNat)
  case atStart => exact ⟨0, Nat.zero_le _, rfl, Below.refl _ _⟩
  case round =>
    clear q0 q1 q2 q3 r0 r1 r2 r3
    obtain ⟨k, hk, rfl, hb⟩ := hrel
    have HR0 := Lib.hid hb
    have HBq := Lib.hid (HB.out.trans (hb.mono HB.out.size))
    clear HB
    have HB := HBq
    clear HBq
    have T0q := Lib.hid (T0.out.next hb)
    clear T0
    have T0 := T0q
    clear T0q
    have HHq := Lib.hid (HH.out.next hb)
    clear HH
    have HH := HHq
    clear HHq
    have GGq := Lib.hid (GG.out.next hb)
    clear GG
    have GG := GGq
    clear GGq
    have BXq := Lib.hid (BX.out.next hb)
    clear BX
    have BX := BXq
    clear BXq
    have BYq := Lib.hid (BY.out.next hb)
    clear BY
    have BY := BYq
    clear BYq
    have T1q := Lib.hid (T1.out.next hb)
    clear T1
    have T1 := T1q
    clear T1q
    clear hb
    have HR1 := Lib.hid HR0.out
    clear HR0
    by_cases hlt : k < n
    · have hkl : k < l.length := by rw [HL.out]; exact hlt
      obtain ⟨b, off, A8, m8, c8, rfl, hbl, z0, z1, z2, z3, hx⟩ := RT.one T0.out.reads hlt
      have hxm := getD_in hkl
      obtain ⟨x, hxx⟩ : ∃ x, l.getD k hd0 = x := ⟨_, rfl⟩
      rw [hxx] at z0 z2 z3 hx hxm
      have Z0 := Lib.hid (CellK.mk (p := ⟨b, off + k * 4, none⟩) hbl z0)
      have Z1 := Lib.hid (CellK.mk (p := ⟨b, off + k * 4 + 1, none⟩) hbl z1)
      have Z2 := Lib.hid (CellK.mk (p := ⟨b, off + k * 4 + 2, none⟩) hbl z2)
      have Z3 := Lib.hid (CellK.mk (p := ⟨b, off + k * 4 + 3, none⟩) hbl z3)
      have HX := Lib.hid hx
      have GX := Lib.hid (GO.out x hxm)
      have TX := Lib.hid (GT.out x hxm)
      clear z1 z2 z3 hx hxm hxx hbl hkl
      go_wp2_with fail
      refine (h10_get H T1.out F1.out GX.out TX.out).mono ?_
      rintro e w6 ⟨⟨A21, m21, c21, rfl, hh21⟩, hb⟩
      have HBq := Lib.hid (HB.out.trans (hb.mono HB.out.size))
      clear HB
      have HB := HBq
      clear HBq
      have HR1q := Lib.hid (HR1.out.trans (hb.mono HR1.out.size))
      clear HR1
      have HR1 := HR1q
      clear HR1q
      have T0q := Lib.hid (T0.out.next hb)
      clear T0
      have T0 := T0q
      clear T0q
      have HHq := Lib.hid (HH.out.next hb)
      clear HH
      have HH := HHq
      clear HHq
      have GGq := Lib.hid (GG.out.next hb)
      clear GG
      have GG := GGq
      clear GGq
      have BXq := Lib.hid (BX.out.next hb)
      clear BX
      have BX := BXq
      clear BXq
      have BYq := Lib.hid (BY.out.next hb)
      clear BY
      have BY := BYq
      clear BYq
      have T1q := Lib.hid (T1.out.next hb)
      clear T1
      have T1 := T1q
      clear T1q
      have Z0q := Lib.hid (Z0.out.next hb)
      clear Z0
      have Z0 := Z0q
      clear Z0q
      have Z1q := Lib.hid (Z1.out.next hb)
      clear Z1
      have Z1 := Z1q
      clear Z1q
      have Z2q := Lib.hid (Z2.out.next hb)
      clear Z2
      have Z2 := Z2q
      clear Z2q
      have Z3q := Lib.hid (Z3.out.next hb)
      clear Z3
      have Z3 := Z3q
      clear Z3q
      have HXq := Lib.hid (HX.out.next hb)
      clear HX
      have HX := HXq
      clear HXq
      clear hb
      have H8 := Lib.hid hh21
      clear hh21 z0
      have hb := Below.alloc (Below.refl w6.heap.size w6) (Nat.le_refl _) (.cells #[.int .i64 x.id, .slice A21 m21 c21, .int .i64 x.frm, .int .i64 x.to] 36)
      have B8q := Lib.hid (boxH_new w6 x A21 m21 c21)
      have HBq := Lib.hid (HB.out.trans (hb.mono HB.out.size))
      clear HB
      have HB := HBq
      clear HBq
      have HR1q := Lib.hid (HR1.out.trans (hb.mono HR1.out.size))
      clear HR1
      have HR1 := HR1q
      clear HR1q
      have T0q := Lib.hid (T0.out.next hb)
      clear T0
      have T0 := T0q
      clear T0q
      have HHq := Lib.hid (HH.out.next hb)
      clear HH
      have HH := HHq
      clear HHq
      have GGq := Lib.hid (GG.out.next hb)
      clear GG
      have GG := GGq
      clear GGq
      have BXq := Lib.hid (BX.out.next hb)
      clear BX
      have BX := BXq
      clear BXq
      have BYq := Lib.hid (BY.out.next hb)
      clear BY
      have BY := BYq
      clear BYq
      have T1q := Lib.hid (T1.out.next hb)
      clear T1
      have T1 := T1q
      clear T1q
      have Z0q := Lib.hid (Z0.out.next hb)
      clear Z0
      have Z0 := Z0q
      clear Z0q
      have Z1q := Lib.hid (Z1.out.next hb)
      clear Z1
      have Z1 := Z1q
      clear Z1q
      have Z2q := Lib.hid (Z2.out.next hb)
      clear Z2
      have Z2 := Z2q
      clear Z2q
      have Z3q := Lib.hid (Z3.out.next hb)
      clear Z3
      have Z3 := Z3q
      clear Z3q
      have HXq := Lib.hid (HX.out.next hb)
      clear HX
      have HX := HXq
      clear HXq
      have H8q := Lib.hid (H8.out.next hb)
      clear H8
      have H8 := H8q
      clear H8q
      clear hb
      have B8 := B8q
      clear B8q
      have s0 := B8.out.c0
      have s1 := B8.out.c1
      have s2 := B8.out.c2
      have s3 := B8.out.c3
      have z0 := Z0.out.at'
      have z1 := Z1.out.at'
      have z2 := Z2.out.at'
      have z3 := Z3.out.at'
      go_wp2
      have zc0 : ∀ p : Later (w6.alloc (.cells #[.int .i64 x.id, .slice A21 m21 c21, .int .i64 x.frm, .int .i64 x.to] 36)), p.now.cell? ⟨w6.heap.size, 0, none⟩ = some (.int .i64 x.id) := fun _ => Later.cell B8.out.lt B8.out.c0
      have zc1 : ∀ p : Later (w6.alloc (.cells #[.int .i64 x.id, .slice A21 m21 c21, .int .i64 x.frm, .int .i64 x.to] 36)), p.now.cell? ⟨w6.heap.size, 1, none⟩ = some (.slice A21 m21 c21) := fun _ => Later.cell B8.out.lt B8.out.c1
      have zc2 : ∀ p : Later (w6.alloc (.cells #[.int .i64 x.id, .slice A21 m21 c21, .int .i64 x.frm, .int .i64 x.to] 36)), p.now.cell? ⟨w6.heap.size, 2, none⟩ = some (.int .i64 x.frm) := fun _ => Later.cell B8.out.lt B8.out.c2
      have zc3 : ∀ p : Later (w6.alloc (.cells #[.int .i64 x.id, .slice A21 m21 c21, .int .i64 x.frm, .int .i64 x.to] 36)), p.now.cell? ⟨w6.heap.size, 3, none⟩ = some (.int .i64 x.to) := fun _ => Later.cell B8.out.lt B8.out.c3
      have zc4 : ∀ p : Later (w6.alloc (.cells #[.int .i64 x.id, .slice A21 m21 c21, .int .i64 x.frm, .int .i64 x.to] 36)), p.now.cell? ⟨b, off + k * 4, none⟩ = some (.int .i64 x.id) := fun _ => Later.cell Z0.out.lt z0
      have zc5 : ∀ p : Later (w6.alloc (.cells #[.int .i64 x.id, .slice A21 m21 c21, .int .i64 x.frm, .int .i64 x.to] 36)), p.now.cell? ⟨b, off + k * 4 + 1, none⟩ = some (.slice A8 m8 c8) := fun _ => Later.cell Z1.out.lt z1
      have zc6 : ∀ p : Later (w6.alloc (.cells #[.int .i64 x.id, .slice A21 m21 c21, .int .i64 x.frm, .int .i64 x.to] 36)), p.now.cell? ⟨b, off + k * 4 + 2, none⟩ = some (.int .i64 x.frm) := fun _ => Later.cell Z2.out.lt z2
      have zc7 : ∀ p : Later (w6.alloc (.cells #[.int .i64 x.id, .slice A21 m21 c21, .int .i64 x.frm, .int .i64 x.to] 36)), p.now.cell? ⟨b, off + k * 4 + 3, none⟩ = some (.int .i64 x.to) := fun _ => Later.cell Z3.out.lt z3
      refine wp_region_later (by kernel_rfl) (by kernel_rfl) ?_
      repeat (first | go_big_quiet_skip | (go_big_quiet_want; go_big_quiet_op; first | go_big_quiet_on | (apply Exists.intro; refine ⟨fun pz => ?_, ?_⟩; (first | (go_at_call 26; exact Calls.later_of (refOne_any (H8.out.next pz.bel) (HX.out.next pz.bel) (sameH_iff.2 rfl))) | fail); go_big_quiet_on)))
      refine wpQuiet_nil ?_
      intro _ hw'
      obtain ⟨pz, rfl⟩ := hw'
      obtain ⟨w7, hb⟩ := pz
      try dsimp only
      clear zc0 zc1 zc2 zc3 zc4 zc5 zc6 zc7
      have HBq := Lib.hid (HB.out.trans (hb.mono HB.out.size))
      clear HB
      have HB := HBq
      clear HBq
      have HR1q := Lib.hid (HR1.out.trans (hb.mono HR1.out.size))
      clear HR1
      have HR1 := HR1q
      clear HR1q
      have T0q := Lib.hid (T0.out.next hb)
      clear T0
      have T0 := T0q
      clear T0q
      have HHq := Lib.hid (HH.out.next hb)
      clear HH
      have HH := HHq
      clear HHq
      have GGq := Lib.hid (GG.out.next hb)
      clear GG
      have GG := GGq
      clear GGq
      have BXq := Lib.hid (BX.out.next hb)
      clear BX
      have BX := BXq
      clear BXq
      have BYq := Lib.hid (BY.out.next hb)
      clear BY
      have BY := BYq
      clear BYq
      have T1q := Lib.hid (T1.out.next hb)
      clear T1
      have T1 := T1q
      clear T1q
      have Z0q := Lib.hid (Z0.out.next hb)
      clear Z0
      have Z0 := Z0q
      clear Z0q
      have Z1q := Lib.hid (Z1.out.next hb)
      clear Z1
      have Z1 := Z1q
      clear Z1q
      have Z2q := Lib.hid (Z2.out.next hb)
      clear Z2
      have Z2 := Z2q
      clear Z2q
      have Z3q := Lib.hid (Z3.out.next hb)
      clear Z3
      have Z3 := Z3q
      clear Z3q
      have HXq := Lib.hid (HX.out.next hb)
      clear HX
      have HX := HXq
      clear HXq
      have H8q := Lib.hid (H8.out.next hb)
      clear H8
      have H8 := H8q
      clear H8q
      have B8q := Lib.hid (B8.out.next hb)
      clear B8
      have B8 := B8q
      clear B8q
      clear hb
      go_wp2
      go_roundw
      case rel => exact ⟨k + 1, by omega, by go_num, HR1.out⟩
      case measure => simp [intOf]; omega
    · have hkn : k = n := by omega
      have q0 := BX.out.c0
      have q1 := BX.out.c1
      have q2 := BX.out.c2
      have q3 := BX.out.c3
      have r0 := BY.out.c0
      have r1 := BY.out.c1
      have r2 := BY.out.c2
      have r3 := BY.out.c3
      go_wp2_with fail
      refine (h10_add H T1.out F1.out GG.out hmm3 EA1.out EA2.out).mono ?_
      rintro e w8 ⟨⟨A31, c31, rfl, hr31, hn31, hc31⟩, hb⟩
      have HBq := Lib.hid (HB.out.trans (hb.mono HB.out.size))
      clear HB
      have HB := HBq
      clear HBq
      have T0q := Lib.hid (T0.out.next hb)
      clear T0
      have T0 := T0q
      clear T0q
      have HHq := Lib.hid (HH.out.next hb)
      clear HH
      have HH := HHq
      clear HHq
      have GGq := Lib.hid (GG.out.next hb)
      clear GG
      have GG := GGq
      clear GGq
      have BXq := Lib.hid (BX.out.next hb)
      clear BX
      have BX := BXq
      clear BXq
      have BYq := Lib.hid (BY.out.next hb)
      clear BY
      have BY := BYq
      clear BYq
      have T1q := Lib.hid (T1.out.next hb)
      clear T1
      have T1 := T1q
      clear T1q
      clear hb
      have T31 := Lib.hid (ans_ask hr31 hn31 hc31 (by have := FY.out; unfold maxLen; omega))
      clear hr31 hn31 hc31
      clear q0 q1 q2 q3 r0 r1 r2 r3
      have q0 := BX.out.c0
      have q1 := BX.out.c1
      have q2 := BX.out.c2
      have q3 := BX.out.c3
      have r0 := BY.out.c0
      have r1 := BY.out.c1
      have r2 := BY.out.c2
      have r3 := BY.out.c3
      go_wp2_with fail
      refine (h10_add H T0.out F0.out GG.out hmm3 EB1.out EB2.out).mono ?_
      rintro e w9 ⟨⟨A32, c32, rfl, hr32, hn32, hc32⟩, hb⟩
      have HBq := Lib.hid (HB.out.trans (hb.mono HB.out.size))
      clear HB
      have HB := HBq
      clear HBq
      have T0q := Lib.hid (T0.out.next hb)
      clear T0
      have T0 := T0q
      clear T0q
      have HHq := Lib.hid (HH.out.next hb)
      clear HH
      have HH := HHq
      clear HHq
      have GGq := Lib.hid (GG.out.next hb)
      clear GG
      have GG := GGq
      clear GGq
      have BXq := Lib.hid (BX.out.next hb)
      clear BX
      have BX := BXq
      clear BXq
      have BYq := Lib.hid (BY.out.next hb)
      clear BY
      have BY := BYq
      clear BYq
      have T1q := Lib.hid (T1.out.next hb)
      clear T1
      have T1 := T1q
      clear T1q
      have T31q := Lib.hid (T31.out.next hb)
      clear T31
      have T31 := T31q
      clear T31q
      clear hb
      have T32 := Lib.hid (ans_ask hr32 hn32 hc32 (by have := FZ.out.1; unfold maxLen; omega))
      clear hr32 hn32 hc32
      clear q0 q1 q2 q3 r0 r1 r2 r3
      have q0 := BX.out.c0
      have q1 := BX.out.c1
      have q2 := BX.out.c2
      have q3 := BX.out.c3
      have r0 := BY.out.c0
      have r1 := BY.out.c1
      have r2 := BY.out.c2
      have r3 := BY.out.c3
      go_wp2_with fail
      refine (h10_add H T32.out FZ.out HH.out hmm EC1.out EC2.out).mono ?_
      rintro e w10 ⟨⟨A33, c33, rfl, hr33, hn33, hc33⟩, hb⟩
      have HBq := Lib.hid (HB.out.trans (hb.mono HB.out.size))
      clear HB
      have HB := HBq
      clear HBq
      have T0q := Lib.hid (T0.out.next hb)
      clear T0
      have T0 := T0q
      clear T0q
      have HHq := Lib.hid (HH.out.next hb)
      clear HH
      have HH := HHq
      clear HHq
      have GGq := Lib.hid (GG.out.next hb)
      clear GG
      have GG := GGq
      clear GGq
      have BXq := Lib.hid (BX.out.next hb)
      clear BX
      have BX := BXq
      clear BXq
      have BYq := Lib.hid (BY.out.next hb)
      clear BY
      have BY := BYq
      clear BYq
      have T1q := Lib.hid (T1.out.next hb)
      clear T1
      have T1 := T1q
      clear T1q
      have T31q := Lib.hid (T31.out.next hb)
      clear T31
      have T31 := T31q
      clear T31q
      have T32q := Lib.hid (T32.out.next hb)
      clear T32
      have T32 := T32q
      clear T32q
      clear hb
      have T33 := Lib.hid (ans_ask hr33 hn33 hc33 (by have := FW.out; unfold maxLen; omega))
      clear hr33 hn33 hc33
      clear q0 q1 q2 q3 r0 r1 r2 r3
      go_wp2_with fail
      refine (sameT_b T31.out T33.out (sameT_self _)).mono ?_
      rintro e w11 ⟨rfl, hb⟩
      have HBq := Lib.hid (HB.out.trans (hb.mono HB.out.size))
      clear HB
      have HB := HBq
      clear HBq
      have T0q := Lib.hid (T0.out.next hb)
      clear T0
      have T0 := T0q
      clear T0q
      have HHq := Lib.hid (HH.out.next hb)
      clear HH
      have HH := HHq
      clear HHq
      have GGq := Lib.hid (GG.out.next hb)
      clear GG
      have GG := GGq
      clear GGq
      have BXq := Lib.hid (BX.out.next hb)
      clear BX
      have BX := BXq
      clear BXq
      have BYq := Lib.hid (BY.out.next hb)
      clear BY
      have BY := BYq
      clear BYq
      have T1q := Lib.hid (T1.out.next hb)
      clear T1
      have T1 := T1q
      clear T1q
      have T31q := Lib.hid (T31.out.next hb)
      clear T31
      have T31 := T31q
      clear T31q
      have T32q := Lib.hid (T32.out.next hb)
      clear T32
      have T32 := T32q
      clear T32q
      have T33q := Lib.hid (T33.out.next hb)
      clear T33
      have T33 := T33q
      clear T33q
      clear hb
      go_wp2
      go_ret
      exact ⟨rfl, HB.out⟩

set_option maxRecDepth 100000 in
set_option maxHeartbeats 8000000 in
theorem heldGets_fg (H : HeldOk) (A : Option Addr) (n c : Nat) (l : Tb) (A2 : Option Addr) (m c2 : Nat) (h : Hd) (A3 : Option Addr) (m3 c3 : Nat) (g : Hd) (w : World) (hl : TAsk w A n c l) (hh : HAsk w A2 m c2 h) (hg : HAsk w A3 m3 c3 g) (h0 : shortT l = true) (h60 : ¬ 60 < m) (h63 : ¬ 60 < m3) (hma : MayAdd l h) (hfa : addE (insT l h) g ≠ 0) (hgb : MayAdd l g) (hka : addE (insT l g) h ≠ 0) :
    Calls Try.prog 6 #[.slice A n c, .agg #[.int .i64 h.id, .slice A2 m c2, .int .i64 h.frm, .int .i64 h.to], .agg #[.int .i64 g.id, .slice A3 m3 c3, .int .i64 g.frm, .int .i64 g.to]] w fun e w' => e = .returned (.bool true) ∧ Below w.heap.size w w' := by
  obtain ⟨W, hW⟩ : ∃ W, W = (w.alloc (hO h A2 m c2)).alloc (hO g A3 m3 c3) := ⟨_, rfl⟩
  have BX : Hid (BoxH W w.heap.size h A2 m c2) := Lib.hid (by rw [hW]; exact (boxH_new w h A2 m c2).next ((Below.refl _ _).alloc (Nat.le_refl _) _))
  have BY : Hid (BoxH W (w.heap.size + 1) g A3 m3 c3) := Lib.hid (by
    have := boxH_new (w.alloc (hO h A2 m c2)) g A3 m3 c3
    rw [show (w.alloc (hO h A2 m c2)).heap.size = w.heap.size + 1 by simp] at this
    rw [hW]; exact this)
  have hb0 : Below w.heap.size w W := by rw [hW]; exact ((Below.refl _ _).alloc (Nat.le_refl _) _).alloc (by simp) _
  have HB := Lib.hid hb0
  have T0 := Lib.hid (hl.next hb0)
  have HH := Lib.hid (hh.next hb0)
  have GG := Lib.hid (hg.next hb0)
  have hm2 := hh.few
  have hm3 := hg.few
  unfold maxLen at hm2 hm3
  unfold hO at hW
  have E0 := Lib.hid h0
  have F0 := Lib.hid (short_few' h0)
  have HSB := Lib.hid (short_is h0)
  have HL := Lib.hid hl.reads.len
  have hn30 : n ≤ 30 := by rw [← HL.out]; exact HSB.out.1
  have h60d : decide ((60 : Int) < (m : Int)) = false := by simp; omega
  have h63d : decide ((60 : Int) < (m3 : Int)) = false := by simp; omega
  have hmm : m ≤ 100 := by omega
  have hmm3 : m3 ≤ 100 := by omega
  have HM := Lib.hid hh.reads.1
  have GM := Lib.hid hg.reads.1
  have L10 := ins_short HSB.out (h := h) (by have := HM.out; omega)
  have F10 := ins_few HSB.out (h := h) (by have := HM.out; omega)
  have hlen : (insT l h).length = n + 1 := by rw [ins_len hma.new, HL.out]
  have GO : Hid (∀ x ∈ l, getT (insT l h) x.id = x) := Lib.hid (fun x hx => getT_old hma hx)
  have GT : Hid (∀ x ∈ l, gotT (insT l h) x.id = true) := Lib.hid (fun x hx => hma.gotOld hx)
  have DG := Lib.hid (getT_add hma)
  have DT := Lib.hid hma.gotT
  have E1 := Lib.hid (add_yes hma)
  have E2 := Lib.hid (add_ok.2 hma)
  obtain ⟨l1, e1⟩ : ∃ r, insT l h = r := ⟨_, rfl⟩
  rw [e1] at L10 F10 hlen GO GT DG DT E1
  have d9 : ((l1.length : Int) != (n : Int) + 1) = false := by rw [bne_eq_false_iff_eq]; omega
  have d9' : (l1.length != n + 1) = false := by rw [bne_eq_false_iff_eq]; omega
  have L1 := Lib.hid L10.1
  have F1 := Lib.hid F10
  have hl1 : l1.length ≤ 31 := L10.1
  rw [e1] at hfa
  have EA1 := Lib.hid (add_no hfa)
  have FZ0 := ins_few HSB.out (h := g) (by have := GM.out; omega)
  have FW0 : (insT l g).length ≤ 100 := by rw [ins_len hgb.new, HL.out]; omega
  have EB1 := Lib.hid (add_yes hgb)
  have EB2 := Lib.hid (add_ok.2 hgb)
  have EC1 := Lib.hid (add_no hka)
  obtain ⟨fy, ey2⟩ : ∃ v, addE l1 g = v := ⟨_, rfl⟩
  obtain ⟨kw, ek2⟩ : ∃ v, addE (insT l g) h = v := ⟨_, rfl⟩
  rw [ey2] at hfa
  rw [ek2] at hka
  have d20 : (fy == 0) = false := beq_eq_false_iff_ne.2 hfa
  have d21 : (fy != 0) = true := bne_iff_ne.2 hfa
  have d22 : (kw == 0) = false := beq_eq_false_iff_ne.2 hka
  obtain ⟨lz, ez⟩ : ∃ r, insT l g = r := ⟨_, rfl⟩
  rw [ez] at FZ0 FW0 EB1 EC1 ek2
  have EA2 := Lib.hid ey2
  have EC2 := Lib.hid ek2
  have FY : Hid (l1.length ≤ 100) := Lib.hid (by omega)
  have FW := Lib.hid FW0
  have FZ := Lib.hid FZ0
  clear hfa hgb hka FW0 FZ0 ey2 ek2 ez hma
  clear hb0 hl hh hg h0 h60 h63 e1 L10 F10 hlen
  go_enter Try.func6, Try.ntmps6
  go_wp2_with fail
  rw [← hW]
  refine (awake10_any H _).mono ?_
  rintro e w1 ⟨rfl, hb⟩
  have HBq := Lib.hid (HB.out.trans (hb.mono HB.out.size))
  clear HB
  have HB := HBq
  clear HBq
  have T0q := Lib.hid (T0.out.next hb)
  clear T0
  have T0 := T0q
  clear T0q
  have HHq := Lib.hid (HH.out.next hb)
  clear HH
  have HH := HHq
  clear HHq
  have GGq := Lib.hid (GG.out.next hb)
  clear GG
  have GG := GGq
  clear GGq
  have BXq := Lib.hid (BX.out.next hb)
  clear BX
  have BX := BXq
  clear BXq
  have BYq := Lib.hid (BY.out.next hb)
  clear BY
  have BY := BYq
  clear BYq
  clear hb
  clear hW
  go_wp2_with fail
  refine (short_b T0.out E0.out).mono ?_
  rintro e w2 ⟨rfl, hb⟩
  have HBq := Lib.hid (HB.out.trans (hb.mono HB.out.size))
  clear HB
  have HB := HBq
  clear HBq
  have T0q := Lib.hid (T0.out.next hb)
  clear T0
  have T0 := T0q
  clear T0q
  have HHq := Lib.hid (HH.out.next hb)
  clear HH
  have HH := HHq
  clear HHq
  have GGq := Lib.hid (GG.out.next hb)
  clear GG
  have GG := GGq
  clear GGq
  have BXq := Lib.hid (BX.out.next hb)
  clear BX
  have BX := BXq
  clear BXq
  have BYq := Lib.hid (BY.out.next hb)
  clear BY
  have BY := BYq
  clear BYq
  clear hb
  have q0 := BX.out.c0
  have q1 := BX.out.c1
  have q2 := BX.out.c2
  have q3 := BX.out.c3
  have r0 := BY.out.c0
  have r1 := BY.out.c1
  have r2 := BY.out.c2
  have r3 := BY.out.c3
  go_wp2_with fail
  refine (h10_add H T0.out F0.out HH.out hmm E1.out E2.out).mono ?_
  rintro e w3 ⟨⟨A11, c11, rfl, hr11, hn11, hc11⟩, hb⟩
  have HBq := Lib.hid (HB.out.trans (hb.mono HB.out.size))
  clear HB
  have HB := HBq
  clear HBq
  have T0q := Lib.hid (T0.out.next hb)
  clear T0
  have T0 := T0q
  clear T0q
  have HHq := Lib.hid (HH.out.next hb)
  clear HH
  have HH := HHq
  clear HHq
  have GGq := Lib.hid (GG.out.next hb)
  clear GG
  have GG := GGq
  clear GGq
  have BXq := Lib.hid (BX.out.next hb)
  clear BX
  have BX := BXq
  clear BXq
  have BYq := Lib.hid (BY.out.next hb)
  clear BY
  have BY := BYq
  clear BYq
  clear hb
  have T1 := Lib.hid (ans_ask hr11 hn11 hc11 (by have := L1.out; unfold maxLen; omega))
  clear hr11 hn11 hc11
  clear q0 q1 q2 q3 r0 r1 r2 r3
  have q0 := BX.out.c0
  have q1 := BX.out.c1
  have q2 := BX.out.c2
  have q3 := BX.out.c3
  have r0 := BY.out.c0
  have r1 := BY.out.c1
  have r2 := BY.out.c2
  have r3 := BY.out.c3
  go_wp2_with fail
  refine (h10_get H T1.out F1.out DG.out DT.out).mono ?_
  rintro e w4 ⟨⟨A12, m12, c12, rfl, hh12⟩, hb⟩
  have HBq := Lib.hid (HB.out.trans (hb.mono HB.out.size))
  clear HB
  have HB := HBq
  clear HBq
  have T0q := Lib.hid (T0.out.next hb)
  clear T0
  have T0 := T0q
  clear T0q
  have HHq := Lib.hid (HH.out.next hb)
  clear HH
  have HH := HHq
  clear HHq
  have GGq := Lib.hid (GG.out.next hb)
  clear GG
  have GG := GGq
  clear GGq
  have BXq := Lib.hid (BX.out.next hb)
  clear BX
  have BX := BXq
  clear BXq
  have BYq := Lib.hid (BY.out.next hb)
  clear BY
  have BY := BYq
  clear BYq
  have T1q := Lib.hid (T1.out.next hb)
  clear T1
  have T1 := T1q
  clear T1q
  clear hb
  have H2 := Lib.hid hh12
  clear hh12
  clear q0 q1 q2 q3 r0 r1 r2 r3
  have hb := Below.alloc (Below.refl w4.heap.size w4) (Nat.le_refl _) (.cells #[.int .i64 h.id, .slice A12 m12 c12, .int .i64 h.frm, .int .i64 h.to] 36)
  have B2q := Lib.hid (boxH_new w4 h A12 m12 c12)
  have HBq := Lib.hid (HB.out.trans (hb.mono HB.out.size))
  clear HB
  have HB := HBq
  clear HBq
  have T0q := Lib.hid (T0.out.next hb)
  clear T0
  have T0 := T0q
  clear T0q
  have HHq := Lib.hid (HH.out.next hb)
  clear HH
  have HH := HHq
  clear HHq
  have GGq := Lib.hid (GG.out.next hb)
  clear GG
  have GG := GGq
  clear GGq
  have BXq := Lib.hid (BX.out.next hb)
  clear BX
  have BX := BXq
  clear BXq
  have BYq := Lib.hid (BY.out.next hb)
  clear BY
  have BY := BYq
  clear BYq
  have T1q := Lib.hid (T1.out.next hb)
  clear T1
  have T1 := T1q
  clear T1q
  have H2q := Lib.hid (H2.out.next hb)
  clear H2
  have H2 := H2q
  clear H2q
  clear hb
  have B2 := B2q
  clear B2q
  have s0 := B2.out.c0
  have s1 := B2.out.c1
  have s2 := B2.out.c2
  have s3 := B2.out.c3
  have q0 := BX.out.c0
  have q1 := BX.out.c1
  have q2 := BX.out.c2
  have q3 := BX.out.c3
  have r0 := BY.out.c0
  have r1 := BY.out.c1
  have r2 := BY.out.c2
  have r3 := BY.out.c3
  go_wp2_with fail
  refine (refOne_any H2.out HH.out (sameH_iff.2 rfl)).mono ?_
  rintro e w5 ⟨rfl, hb⟩
  have HBq := Lib.hid (HB.out.trans (hb.mono HB.out.size))
  clear HB
  have HB := HBq
  clear HBq
  have T0q := Lib.hid (T0.out.next hb)
  clear T0
  have T0 := T0q
  clear T0q
  have HHq := Lib.hid (HH.out.next hb)
  clear HH
  have HH := HHq
  clear HHq
  have GGq := Lib.hid (GG.out.next hb)
  clear GG
  have GG := GGq
  clear GGq
  have BXq := Lib.hid (BX.out.next hb)
  clear BX
  have BX := BXq
  clear BXq
  have BYq := Lib.hid (BY.out.next hb)
  clear BY
  have BY := BYq
  clear BYq
  have T1q := Lib.hid (T1.out.next hb)
  clear T1
  have T1 := T1q
  clear T1q
  have H2q := Lib.hid (H2.out.next hb)
  clear H2
  have H2 := H2q
  clear H2q
  have B2q := Lib.hid (B2.out.next hb)
  clear B2
  have B2 := B2q
  clear B2q
  clear hb
  clear s0 s1 s2 s3
  clear q0 q1 q2 q3 r0 r1 r2 r3
  have q0 := BX.out.c0
  have q1 := BX.out.c1
  have q2 := BX.out.c2
  have q3 := BX.out.c3
  have r0 := BY.out.c0
  have r1 := BY.out.c1
  have r2 := BY.out.c2
  have r3 := BY.out.c3
  clear B2
  clear H2
  go_wp2
  go_loopw [11] (fun kv wr => ∃ k : Nat, k ≤ n ∧ kv = .int .i64 k ∧ Below w5.heap.size w5 wr) (fun kv _ => n - (intOf kv).toNat)
  case atStart => exact ⟨0, Nat.zero_le _, rfl, Below.refl _ _⟩
  case round =>
    clear q0 q1 q2 q3 r0 r1 r2 r3
    obtain ⟨k, hk, rfl, hb⟩ := hrel
    have HR0 := Lib.hid hb
    have HBq := Lib.hid (HB.out.trans (hb.mono HB.out.size))
    clear HB
    have HB := HBq
    clear HBq
    have T0q := Lib.hid (T0.out.next hb)
    clear T0
    have T0 := T0q
    clear T0q
    have HHq := Lib.hid (HH.out.next hb)
    clear HH
    have HH := HHq
    clear HHq
    have GGq := Lib.hid (GG.out.next hb)
    clear GG
    have GG := GGq
    clear GGq
    have BXq := Lib.hid (BX.out.next hb)
    clear BX
    have BX := BXq
    clear BXq
    have BYq := Lib.hid (BY.out.next hb)
    clear BY
    have BY := BYq
    clear BYq
    have T1q := Lib.hid (T1.out.next hb)
    clear T1
    have T1 := T1q
    clear T1q
    clear hb
    have HR1 := Lib.hid HR0.out
    clear HR0
    by_cases hlt : k < n
    · have hkl : k < l.length := by rw [HL.out]; exact hlt
      obtain ⟨b, off, A8, m8, c8, rfl, hbl, z0, z1, z2, z3, hx⟩ := RT.one T0.out.reads hlt
      have hxm := getD_in hkl
      obtain ⟨x, hxx⟩ : ∃ x, l.getD k hd0 = x := ⟨_, rfl⟩
      rw [hxx] at z0 z2 z3 hx hxm
      have Z0 := Lib.hid (CellK.mk (p := ⟨b, off + k * 4, none⟩) hbl z0)
      have Z1 := Lib.hid (CellK.mk (p := ⟨b, off + k * 4 + 1, none⟩) hbl z1)
      have Z2 := Lib.hid (CellK.mk (p := ⟨b, off + k * 4 + 2, none⟩) hbl z2)
      have Z3 := Lib.hid (CellK.mk (p := ⟨b, off + k * 4 + 3, none⟩) hbl z3)
      have HX := Lib.hid hx
      have GX := Lib.hid (GO.out x hxm)
      have TX := Lib.hid (GT.out x hxm)
      clear z1 z2 z3 hx hxm hxx hbl hkl
      go_wp2_with fail
      refine (h10_get H T1.out F1.out GX.out TX.out).mono ?_
      rintro e w6 ⟨⟨A21, m21, c21, rfl, hh21⟩, hb⟩
      have HBq := Lib.hid (HB.out.trans (hb.mono HB.out.size))
      clear HB
      have HB := HBq
      clear HBq
      have HR1q := Lib.hid (HR1.out.trans (hb.mono HR1.out.size))
      clear HR1
      have HR1 := HR1q
      clear HR1q
      have T0q := Lib.hid (T0.out.next hb)
      clear T0
      have T0 := T0q
      clear T0q
      have HHq := Lib.hid (HH.out.next hb)
      clear HH
      have HH := HHq
      clear HHq
      have GGq := Lib.hid (GG.out.next hb)
      clear GG
      have GG := GGq
      clear GGq
      have BXq := Lib.hid (BX.out.next hb)
      clear BX
      have BX := BXq
      clear BXq
      have BYq := Lib.hid (BY.out.next hb)
      clear BY
      have BY := BYq
      clear BYq
      have T1q := Lib.hid (T1.out.next hb)
      clear T1
      have T1 := T1q
      clear T1q
      have Z0q := Lib.hid (Z0.out.next hb)
      clear Z0
      have Z0 := Z0q
      clear Z0q
      have Z1q := Lib.hid (Z1.out.next hb)
      clear Z1
      have Z1 := Z1q
      clear Z1q
      have Z2q := Lib.hid (Z2.out.next hb)
      clear Z2
      have Z2 := Z2q
      clear Z2q
      have Z3q := Lib.hid (Z3.out.next hb)
      clear Z3
      have Z3 := Z3q
      clear Z3q
      have HXq := Lib.hid (HX.out.next hb)
      clear HX
      have HX := HXq
      clear HXq
      clear hb
      have H8 := Lib.hid hh21
      clear hh21 z0
      have hb := Below.alloc (Below.refl w6.heap.size w6) (Nat.le_refl _) (.cells #[.int .i64 x.id, .slice A21 m21 c21, .int .i64 x.frm, .int .i64 x.to] 36)
      have B8q := Lib.hid (boxH_new w6 x A21 m21 c21)
      have HBq := Lib.hid (HB.out.trans (hb.mono HB.out.size))
      clear HB
      have HB := HBq
      clear HBq
      have HR1q := Lib.hid (HR1.out.trans (hb.mono HR1.out.size))
      clear HR1
      have HR1 := HR1q
      clear HR1q
      have T0q := Lib.hid (T0.out.next hb)
      clear T0
      have T0 := T0q
      clear T0q
      have HHq := Lib.hid (HH.out.next hb)
      clear HH
      have HH := HHq
      clear HHq
      have GGq := Lib.hid (GG.out.next hb)
      clear GG
      have GG := GGq
      clear GGq
      have BXq := Lib.hid (BX.out.next hb)
      clear BX
      have BX := BXq
      clear BXq
      have BYq := Lib.hid (BY.out.next hb)
      clear BY
      have BY := BYq
      clear BYq
      have T1q := Lib.hid (T1.out.next hb)
      clear T1
      have T1 := T1q
      clear T1q
      have Z0q := Lib.hid (Z0.out.next hb)
      clear Z0
      have Z0 := Z0q
      clear Z0q
      have Z1q := Lib.hid (Z1.out.next hb)
      clear Z1
      have Z1 := Z1q
      clear Z1q
      have Z2q := Lib.hid (Z2.out.next hb)
      clear Z2
      have Z2 := Z2q
      clear Z2q
      have Z3q := Lib.hid (Z3.out.next hb)
      clear Z3
      have Z3 := Z3q
      clear Z3q
      have HXq := Lib.hid (HX.out.next hb)
      clear HX
      have HX := HXq
      clear HXq
      have H8q := Lib.hid (H8.out.next hb)
      clear H8
      have H8 := H8q
      clear H8q
      clear hb
      have B8 := B8q
      clear B8q
      have s0 := B8.out.c0
      have s1 := B8.out.c1
      have s2 := B8.out.c2
      have s3 := B8.out.c3
      have z0 := Z0.out.at'
      have z1 := Z1.out.at'
      have z2 := Z2.out.at'
      have z3 := Z3.out.at'
      go_wp2
      have zc0 : ∀ p : Later (w6.alloc (.cells #[.int .i64 x.id, .slice A21 m21 c21, .int .i64 x.frm, .int .i64 x.to] 36)), p.now.cell? ⟨w6.heap.size, 0, none⟩ = some (.int .i64 x.id) := fun _ => Later.cell B8.out.lt B8.out.c0
      have zc1 : ∀ p : Later (w6.alloc (.cells #[.int .i64 x.id, .slice A21 m21 c21, .int .i64 x.frm, .int .i64 x.to] 36)), p.now.cell? ⟨w6.heap.size, 1, none⟩ = some (.slice A21 m21 c21) := fun _ => Later.cell B8.out.lt B8.out.c1
      have zc2 : ∀ p : Later (w6.alloc (.cells #[.int .i64 x.id, .slice A21 m21 c21, .int .i64 x.frm, .int .i64 x.to] 36)), p.now.cell? ⟨w6.heap.size, 2, none⟩ = some (.int .i64 x.frm) := fun _ => Later.cell B8.out.lt B8.out.c2
      have zc3 : ∀ p : Later (w6.alloc (.cells #[.int .i64 x.id, .slice A21 m21 c21, .int .i64 x.frm, .int .i64 x.to] 36)), p.now.cell? ⟨w6.heap.size, 3, none⟩ = some (.int .i64 x.to) := fun _ => Later.cell B8.out.lt B8.out.c3
      have zc4 : ∀ p : Later (w6.alloc (.cells #[.int .i64 x.id, .slice A21 m21 c21, .int .i64 x.frm, .int .i64 x.to] 36)), p.now.cell? ⟨b, off + k * 4, none⟩ = some (.int .i64 x.id) := fun _ => Later.cell Z0.out.lt z0
      have zc5 : ∀ p : Later (w6.alloc (.cells #[.int .i64 x.id, .slice A21 m21 c21, .int .i64 x.frm, .int .i64 x.to] 36)), p.now.cell? ⟨b, off + k * 4 + 1, none⟩ = some (.slice A8 m8 c8) := fun _ => Later.cell Z1.out.lt z1
      have zc6 : ∀ p : Later (w6.alloc (.cells #[.int .i64 x.id, .slice A21 m21 c21, .int .i64 x.frm, .int .i64 x.to] 36)), p.now.cell? ⟨b, off + k * 4 + 2, none⟩ = some (.int .i64 x.frm) := fun _ => Later.cell Z2.out.lt z2
      have zc7 : ∀ p : Later (w6.alloc (.cells #[.int .i64 x.id, .slice A21 m21 c21, .int .i64 x.frm, .int .i64 x.to] 36)), p.now.cell? ⟨b, off + k * 4 + 3, none⟩ = some (.int .i64 x.to) := fun _ => Later.cell Z3.out.lt z3
      refine wp_region_later (by kernel_rfl) (by kernel_rfl) ?_
      repeat (first | go_big_quiet_skip | (go_big_quiet_want; go_big_quiet_op; first | go_big_quiet_on | (apply Exists.intro; refine ⟨fun pz => ?_, ?_⟩; (first | (go_at_call 26; exact Calls.later_of (refOne_any (H8.out.next pz.bel) (HX.out.next pz.bel) (sameH_iff.2 rfl))) | fail); go_big_quiet_on)))
      refine wpQuiet_nil ?_
      intro _ hw'
      obtain ⟨pz, rfl⟩ := hw'
      obtain ⟨w7, hb⟩ := pz
      try dsimp only
      clear zc0 zc1 zc2 zc3 zc4 zc5 zc6 zc7
      have HBq := Lib.hid (HB.out.trans (hb.mono HB.out.size))
      clear HB
      have HB := HBq
      clear HBq
      have HR1q := Lib.hid (HR1.out.trans (hb.mono HR1.out.size))
      clear HR1
      have HR1 := HR1q
      clear HR1q
      have T0q := Lib.hid (T0.out.next hb)
      clear T0
      have T0 := T0q
      clear T0q
      have HHq := Lib.hid (HH.out.next hb)
      clear HH
      have HH := HHq
      clear HHq
      have GGq := Lib.hid (GG.out.next hb)
      clear GG
      have GG := GGq
      clear GGq
      have BXq := Lib.hid (BX.out.next hb)
      clear BX
      have BX := BXq
      clear BXq
      have BYq := Lib.hid (BY.out.next hb)
      clear BY
      have BY := BYq
      clear BYq
      have T1q := Lib.hid (T1.out.next hb)
      clear T1
      have T1 := T1q
      clear T1q
      have Z0q := Lib.hid (Z0.out.next hb)
      clear Z0
      have Z0 := Z0q
      clear Z0q
      have Z1q := Lib.hid (Z1.out.next hb)
      clear Z1
      have Z1 := Z1q
      clear Z1q
      have Z2q := Lib.hid (Z2.out.next hb)
      clear Z2
      have Z2 := Z2q
      clear Z2q
      have Z3q := Lib.hid (Z3.out.next hb)
      clear Z3
      have Z3 := Z3q
      clear Z3q
      have HXq := Lib.hid (HX.out.next hb)
      clear HX
      have HX := HXq
      clear HXq
      have H8q := Lib.hid (H8.out.next hb)
      clear H8
      have H8 := H8q
      clear H8q
      have B8q := Lib.hid (B8.out.next hb)
      clear B8
      have B8 := B8q
      clear B8q
      clear hb
      go_wp2
      go_roundw
      case rel => exact ⟨k + 1, by omega, by go_num, HR1.out⟩
      case measure => simp [intOf]; omega
    · have hkn : k = n := by omega
      have q0 := BX.out.c0
      have q1 := BX.out.c1
      have q2 := BX.out.c2
      have q3 := BX.out.c3
      have r0 := BY.out.c0
      have r1 := BY.out.c1
      have r2 := BY.out.c2
      have r3 := BY.out.c3
      go_wp2_with fail
      refine (h10_add H T1.out F1.out GG.out hmm3 EA1.out EA2.out).mono ?_
      rintro e w8 ⟨⟨A31, c31, rfl, hr31, hn31, hc31⟩, hb⟩
      have HBq := Lib.hid (HB.out.trans (hb.mono HB.out.size))
      clear HB
      have HB := HBq
      clear HBq
      have T0q := Lib.hid (T0.out.next hb)
      clear T0
      have T0 := T0q
      clear T0q
      have HHq := Lib.hid (HH.out.next hb)
      clear HH
      have HH := HHq
      clear HHq
      have GGq := Lib.hid (GG.out.next hb)
      clear GG
      have GG := GGq
      clear GGq
      have BXq := Lib.hid (BX.out.next hb)
      clear BX
      have BX := BXq
      clear BXq
      have BYq := Lib.hid (BY.out.next hb)
      clear BY
      have BY := BYq
      clear BYq
      have T1q := Lib.hid (T1.out.next hb)
      clear T1
      have T1 := T1q
      clear T1q
      clear hb
      have T31 := Lib.hid (ans_ask hr31 hn31 hc31 (by have := FY.out; unfold maxLen; omega))
      clear hr31 hn31 hc31
      clear q0 q1 q2 q3 r0 r1 r2 r3
      have q0 := BX.out.c0
      have q1 := BX.out.c1
      have q2 := BX.out.c2
      have q3 := BX.out.c3
      have r0 := BY.out.c0
      have r1 := BY.out.c1
      have r2 := BY.out.c2
      have r3 := BY.out.c3
      go_wp2_with fail
      refine (h10_add H T0.out F0.out GG.out hmm3 EB1.out EB2.out).mono ?_
      rintro e w9 ⟨⟨A32, c32, rfl, hr32, hn32, hc32⟩, hb⟩
      have HBq := Lib.hid (HB.out.trans (hb.mono HB.out.size))
      clear HB
      have HB := HBq
      clear HBq
      have T0q := Lib.hid (T0.out.next hb)
      clear T0
      have T0 := T0q
      clear T0q
      have HHq := Lib.hid (HH.out.next hb)
      clear HH
      have HH := HHq
      clear HHq
      have GGq := Lib.hid (GG.out.next hb)
      clear GG
      have GG := GGq
      clear GGq
      have BXq := Lib.hid (BX.out.next hb)
      clear BX
      have BX := BXq
      clear BXq
      have BYq := Lib.hid (BY.out.next hb)
      clear BY
      have BY := BYq
      clear BYq
      have T1q := Lib.hid (T1.out.next hb)
      clear T1
      have T1 := T1q
      clear T1q
      have T31q := Lib.hid (T31.out.next hb)
      clear T31
      have T31 := T31q
      clear T31q
      clear hb
      have T32 := Lib.hid (ans_ask hr32 hn32 hc32 (by have := FZ.out.1; unfold maxLen; omega))
      clear hr32 hn32 hc32
      clear q0 q1 q2 q3 r0 r1 r2 r3
      have q0 := BX.out.c0
      have q1 := BX.out.c1
      have q2 := BX.out.c2
      have q3 := BX.out.c3
      have r0 := BY.out.c0
      have r1 := BY.out.c1
      have r2 := BY.out.c2
      have r3 := BY.out.c3
      go_wp2_with fail
      refine (h10_add H T32.out FZ.out HH.out hmm EC1.out EC2.out).mono ?_
      rintro e w10 ⟨⟨A33, c33, rfl, hr33, hn33, hc33⟩, hb⟩
      have HBq := Lib.hid (HB.out.trans (hb.mono HB.out.size))
      clear HB
      have HB := HBq
      clear HBq
      have T0q := Lib.hid (T0.out.next hb)
      clear T0
      have T0 := T0q
      clear T0q
      have HHq := Lib.hid (HH.out.next hb)
      clear HH
      have HH := HHq
      clear HHq
      have GGq := Lib.hid (GG.out.next hb)
      clear GG
      have GG := GGq
      clear GGq
      have BXq := Lib.hid (BX.out.next hb)
      clear BX
      have BX := BXq
      clear BXq
      have BYq := Lib.hid (BY.out.next hb)
      clear BY
      have BY := BYq
      clear BYq
      have T1q := Lib.hid (T1.out.next hb)
      clear T1
      have T1 := T1q
      clear T1q
      have T31q := Lib.hid (T31.out.next hb)
      clear T31
      have T31 := T31q
      clear T31q
      have T32q := Lib.hid (T32.out.next hb)
      clear T32
      have T32 := T32q
      clear T32q
      clear hb
      have T33 := Lib.hid (ans_ask hr33 hn33 hc33 (by have := FW.out; unfold maxLen; omega))
      clear hr33 hn33 hc33
      clear q0 q1 q2 q3 r0 r1 r2 r3
      go_wp2
      go_ret
      exact ⟨rfl, HB.out⟩

set_option maxRecDepth 100000 in
set_option maxHeartbeats 8000000 in
theorem heldGets_fn (H : HeldOk) (A : Option Addr) (n c : Nat) (l : Tb) (A2 : Option Addr) (m c2 : Nat) (h : Hd) (A3 : Option Addr) (m3 c3 : Nat) (g : Hd) (w : World) (hl : TAsk w A n c l) (hh : HAsk w A2 m c2 h) (hg : HAsk w A3 m3 c3 g) (h0 : shortT l = true) (h60 : ¬ 60 < m) (h63 : ¬ 60 < m3) (hma : MayAdd l h) (hfa : addE (insT l h) g ≠ 0) (hgb : addE l g ≠ 0) :
    Calls Try.prog 6 #[.slice A n c, .agg #[.int .i64 h.id, .slice A2 m c2, .int .i64 h.frm, .int .i64 h.to], .agg #[.int .i64 g.id, .slice A3 m3 c3, .int .i64 g.frm, .int .i64 g.to]] w fun e w' => e = .returned (.bool true) ∧ Below w.heap.size w w' := by
  obtain ⟨W, hW⟩ : ∃ W, W = (w.alloc (hO h A2 m c2)).alloc (hO g A3 m3 c3) := ⟨_, rfl⟩
  have BX : Hid (BoxH W w.heap.size h A2 m c2) := Lib.hid (by rw [hW]; exact (boxH_new w h A2 m c2).next ((Below.refl _ _).alloc (Nat.le_refl _) _))
  have BY : Hid (BoxH W (w.heap.size + 1) g A3 m3 c3) := Lib.hid (by
    have := boxH_new (w.alloc (hO h A2 m c2)) g A3 m3 c3
    rw [show (w.alloc (hO h A2 m c2)).heap.size = w.heap.size + 1 by simp] at this
    rw [hW]; exact this)
  have hb0 : Below w.heap.size w W := by rw [hW]; exact ((Below.refl _ _).alloc (Nat.le_refl _) _).alloc (by simp) _
  have HB := Lib.hid hb0
  have T0 := Lib.hid (hl.next hb0)
  have HH := Lib.hid (hh.next hb0)
  have GG := Lib.hid (hg.next hb0)
  have hm2 := hh.few
  have hm3 := hg.few
  unfold maxLen at hm2 hm3
  unfold hO at hW
  have E0 := Lib.hid h0
  have F0 := Lib.hid (short_few' h0)
  have HSB := Lib.hid (short_is h0)
  have HL := Lib.hid hl.reads.len
  have hn30 : n ≤ 30 := by rw [← HL.out]; exact HSB.out.1
  have h60d : decide ((60 : Int) < (m : Int)) = false := by simp; omega
  have h63d : decide ((60 : Int) < (m3 : Int)) = false := by simp; omega
  have hmm : m ≤ 100 := by omega
  have hmm3 : m3 ≤ 100 := by omega
  have HM := Lib.hid hh.reads.1
  have GM := Lib.hid hg.reads.1
  have L10 := ins_short HSB.out (h := h) (by have := HM.out; omega)
  have F10 := ins_few HSB.out (h := h) (by have := HM.out; omega)
  have hlen : (insT l h).length = n + 1 := by rw [ins_len hma.new, HL.out]
  have GO : Hid (∀ x ∈ l, getT (insT l h) x.id = x) := Lib.hid (fun x hx => getT_old hma hx)
  have GT : Hid (∀ x ∈ l, gotT (insT l h) x.id = true) := Lib.hid (fun x hx => hma.gotOld hx)
  have DG := Lib.hid (getT_add hma)
  have DT := Lib.hid hma.gotT
  have E1 := Lib.hid (add_yes hma)
  have E2 := Lib.hid (add_ok.2 hma)
  obtain ⟨l1, e1⟩ : ∃ r, insT l h = r := ⟨_, rfl⟩
  rw [e1] at L10 F10 hlen GO GT DG DT E1
  have d9 : ((l1.length : Int) != (n : Int) + 1) = false := by rw [bne_eq_false_iff_eq]; omega
  have d9' : (l1.length != n + 1) = false := by rw [bne_eq_false_iff_eq]; omega
  have L1 := Lib.hid L10.1
  have F1 := Lib.hid F10
  have hl1 : l1.length ≤ 31 := L10.1
  rw [e1] at hfa
  have EA1 := Lib.hid (add_no hfa)
  have EB1 := Lib.hid (add_no hgb)
  have EC1 := Lib.hid E1.out
  have EC2 := Lib.hid E2.out
  obtain ⟨fy, ey2⟩ : ∃ v, addE l1 g = v := ⟨_, rfl⟩
  obtain ⟨gz, eg2⟩ : ∃ v, addE l g = v := ⟨_, rfl⟩
  rw [ey2] at hfa
  rw [eg2] at hgb
  have d20 : (fy == 0) = false := beq_eq_false_iff_ne.2 hfa
  have d21 : (fy != 0) = true := bne_iff_ne.2 hfa
  have d22 : (gz == 0) = false := beq_eq_false_iff_ne.2 hgb
  have EA2 := Lib.hid ey2
  have EB2 := Lib.hid eg2
  have FY : Hid (l1.length ≤ 100) := Lib.hid (by omega)
  have FW : Hid (l1.length ≤ 100) := Lib.hid (by omega)
  have FZ := Lib.hid F0.out
  clear hfa hgb ey2 eg2 hma
  clear hb0 hl hh hg h0 h60 h63 e1 L10 F10 hlen
  go_enter Try.func6, Try.ntmps6
  go_wp2_with fail
  rw [← hW]
  refine (awake10_any H _).mono ?_
  rintro e w1 ⟨rfl, hb⟩
  have HBq := Lib.hid (HB.out.trans (hb.mono HB.out.size))
  clear HB
  have HB := HBq
  clear HBq
  have T0q := Lib.hid (T0.out.next hb)
  clear T0
  have T0 := T0q
  clear T0q
  have HHq := Lib.hid (HH.out.next hb)
  clear HH
  have HH := HHq
  clear HHq
  have GGq := Lib.hid (GG.out.next hb)
  clear GG
  have GG := GGq
  clear GGq
  have BXq := Lib.hid (BX.out.next hb)
  clear BX
  have BX := BXq
  clear BXq
  have BYq := Lib.hid (BY.out.next hb)
  clear BY
  have BY := BYq
  clear BYq
  clear hb
  clear hW
  go_wp2_with fail
  refine (short_b T0.out E0.out).mono ?_
  rintro e w2 ⟨rfl, hb⟩
  have HBq := Lib.hid (HB.out.trans (hb.mono HB.out.size))
  clear HB
  have HB := HBq
  clear HBq
  have T0q := Lib.hid (T0.out.next hb)
  clear T0
  have T0 := T0q
  clear T0q
  have HHq := Lib.hid (HH.out.next hb)
  clear HH
  have HH := HHq
  clear HHq
  have GGq := Lib.hid (GG.out.next hb)
  clear GG
  have GG := GGq
  clear GGq
  have BXq := Lib.hid (BX.out.next hb)
  clear BX
  have BX := BXq
  clear BXq
  have BYq := Lib.hid (BY.out.next hb)
  clear BY
  have BY := BYq
  clear BYq
  clear hb
  have q0 := BX.out.c0
  have q1 := BX.out.c1
  have q2 := BX.out.c2
  have q3 := BX.out.c3
  have r0 := BY.out.c0
  have r1 := BY.out.c1
  have r2 := BY.out.c2
  have r3 := BY.out.c3
  go_wp2_with fail
  refine (h10_add H T0.out F0.out HH.out hmm E1.out E2.out).mono ?_
  rintro e w3 ⟨⟨A11, c11, rfl, hr11, hn11, hc11⟩, hb⟩
  have HBq := Lib.hid (HB.out.trans (hb.mono HB.out.size))
  clear HB
  have HB := HBq
  clear HBq
  have T0q := Lib.hid (T0.out.next hb)
  clear T0
  have T0 := T0q
  clear T0q
  have HHq := Lib.hid (HH.out.next hb)
  clear HH
  have HH := HHq
  clear HHq
  have GGq := Lib.hid (GG.out.next hb)
  clear GG
  have GG := GGq
  clear GGq
  have BXq := Lib.hid (BX.out.next hb)
  clear BX
  have BX := BXq
  clear BXq
  have BYq := Lib.hid (BY.out.next hb)
  clear BY
  have BY := BYq
  clear BYq
  clear hb
  have T1 := Lib.hid (ans_ask hr11 hn11 hc11 (by have := L1.out; unfold maxLen; omega))
  clear hr11 hn11 hc11
  clear q0 q1 q2 q3 r0 r1 r2 r3
  have q0 := BX.out.c0
  have q1 := BX.out.c1
  have q2 := BX.out.c2
  have q3 := BX.out.c3
  have r0 := BY.out.c0
  have r1 := BY.out.c1
  have r2 := BY.out.c2
  have r3 := BY.out.c3
  go_wp2_with fail
  refine (h10_get H T1.out F1.out DG.out DT.out).mono ?_
  rintro e w4 ⟨⟨A12, m12, c12, rfl, hh12⟩, hb⟩
  have HBq := Lib.hid (HB.out.trans (hb.mono HB.out.size))
  clear HB
  have HB := HBq
  clear HBq
  have T0q := Lib.hid (T0.out.next hb)
  clear T0
  have T0 := T0q
  clear T0q
  have HHq := Lib.hid (HH.out.next hb)
  clear HH
  have HH := HHq
  clear HHq
  have GGq := Lib.hid (GG.out.next hb)
  clear GG
  have GG := GGq
  clear GGq
  have BXq := Lib.hid (BX.out.next hb)
  clear BX
  have BX := BXq
  clear BXq
  have BYq := Lib.hid (BY.out.next hb)
  clear BY
  have BY := BYq
  clear BYq
  have T1q := Lib.hid (T1.out.next hb)
  clear T1
  have T1 := T1q
  clear T1q
  clear hb
  have H2 := Lib.hid hh12
  clear hh12
  clear q0 q1 q2 q3 r0 r1 r2 r3
  have hb := Below.alloc (Below.refl w4.heap.size w4) (Nat.le_refl _) (.cells #[.int .i64 h.id, .slice A12 m12 c12, .int .i64 h.frm, .int .i64 h.to] 36)
  have B2q := Lib.hid (boxH_new w4 h A12 m12 c12)
  have HBq := Lib.hid (HB.out.trans (hb.mono HB.out.size))
  clear HB
  have HB := HBq
  clear HBq
  have T0q := Lib.hid (T0.out.next hb)
  clear T0
  have T0 := T0q
  clear T0q
  have HHq := Lib.hid (HH.out.next hb)
  clear HH
  have HH := HHq
  clear HHq
  have GGq := Lib.hid (GG.out.next hb)
  clear GG
  have GG := GGq
  clear GGq
  have BXq := Lib.hid (BX.out.next hb)
  clear BX
  have BX := BXq
  clear BXq
  have BYq := Lib.hid (BY.out.next hb)
  clear BY
  have BY := BYq
  clear BYq
  have T1q := Lib.hid (T1.out.next hb)
  clear T1
  have T1 := T1q
  clear T1q
  have H2q := Lib.hid (H2.out.next hb)
  clear H2
  have H2 := H2q
  clear H2q
  clear hb
  have B2 := B2q
  clear B2q
  have s0 := B2.out.c0
  have s1 := B2.out.c1
  have s2 := B2.out.c2
  have s3 := B2.out.c3
  have q0 := BX.out.c0
  have q1 := BX.out.c1
  have q2 := BX.out.c2
  have q3 := BX.out.c3
  have r0 := BY.out.c0
  have r1 := BY.out.c1
  have r2 := BY.out.c2
  have r3 := BY.out.c3
  go_wp2_with fail
  refine (refOne_any H2.out HH.out (sameH_iff.2 rfl)).mono ?_
  rintro e w5 ⟨rfl, hb⟩
  have HBq := Lib.hid (HB.out.trans (hb.mono HB.out.size))
  clear HB
  have HB := HBq
  clear HBq
  have T0q := Lib.hid (T0.out.next hb)
  clear T0
  have T0 := T0q
  clear T0q
  have HHq := Lib.hid (HH.out.next hb)
  clear HH
  have HH := HHq
  clear HHq
  have GGq := Lib.hid (GG.out.next hb)
  clear GG
  have GG := GGq
  clear GGq
  have BXq := Lib.hid (BX.out.next hb)
  clear BX
  have BX := BXq
  clear BXq
  have BYq := Lib.hid (BY.out.next hb)
  clear BY
  have BY := BYq
  clear BYq
  have T1q := Lib.hid (T1.out.next hb)
  clear T1
  have T1 := T1q
  clear T1q
  have H2q := Lib.hid (H2.out.next hb)
  clear H2
  have H2 := H2q
  clear H2q
  have B2q := Lib.hid (B2.out.next hb)
  clear B2
  have B2 := B2q
  clear B2q
  clear hb
  clear s0 s1 s2 s3
  clear q0 q1 q2 q3 r0 r1 r2 r3
  have q0 := BX.out.c0
  have q1 := BX.out.c1
  have q2 := BX.out.c2
  have q3 := BX.out.c3
  have r0 := BY.out.c0
  have r1 := BY.out.c1
  have r2 := BY.out.c2
  have r3 := BY.out.c3
  clear B2
  clear H2
  go_wp2
  go_loopw [11] (fun kv wr => ∃ k : Nat, k ≤ n ∧ kv = .int .i64 k ∧ Below w5.heap.size w5 wr) (fun kv _ => n - (intOf kv).toNat)
  case atStart => exact ⟨0, Nat.zero_le _, rfl, Below.refl _ _⟩
  case round =>
    clear q0 q1 q2 q3 r0 r1 r2 r3
    obtain ⟨k, hk, rfl, hb⟩ := hrel
    have HR0 := Lib.hid hb
    have HBq := Lib.hid (HB.out.trans (hb.mono HB.out.size))
    clear HB
    have HB := HBq
    clear HBq
    have T0q := Lib.hid (T0.out.next hb)
    clear T0
    have T0 := T0q
    clear T0q
    have HHq := Lib.hid (HH.out.next hb)
    clear HH
    have HH := HHq
    clear HHq
    have GGq := Lib.hid (GG.out.next hb)
    clear GG
    have GG := GGq
    clear GGq
    have BXq := Lib.hid (BX.out.next hb)
    clear BX
    have BX := BXq
    clear BXq
    have BYq := Lib.hid (BY.out.next hb)
    clear BY
    have BY := BYq
    clear BYq
    have T1q := Lib.hid (T1.out.next hb)
    clear T1
    have T1 := T1q
    clear T1q
    clear hb
    have HR1 := Lib.hid HR0.out
    clear HR0
    by_cases hlt : k < n
    · have hkl : k < l.length := by rw [HL.out]; exact hlt
      obtain ⟨b, off, A8, m8, c8, rfl, hbl, z0, z1, z2, z3, hx⟩ := RT.one T0.out.reads hlt
      have hxm := getD_in hkl
      obtain ⟨x, hxx⟩ : ∃ x, l.getD k hd0 = x := ⟨_, rfl⟩
      rw [hxx] at z0 z2 z3 hx hxm
      have Z0 := Lib.hid (CellK.mk (p := ⟨b, off + k * 4, none⟩) hbl z0)
      have Z1 := Lib.hid (CellK.mk (p := ⟨b, off + k * 4 + 1, none⟩) hbl z1)
      have Z2 := Lib.hid (CellK.mk (p := ⟨b, off + k * 4 + 2, none⟩) hbl z2)
      have Z3 := Lib.hid (CellK.mk (p := ⟨b, off + k * 4 + 3, none⟩) hbl z3)
      have HX := Lib.hid hx
      have GX := Lib.hid (GO.out x hxm)
      have TX := Lib.hid (GT.out x hxm)
      clear z1 z2 z3 hx hxm hxx hbl hkl
      go_wp2_with fail
      refine (h10_get H T1.out F1.out GX.out TX.out).mono ?_
      rintro e w6 ⟨⟨A21, m21, c21, rfl, hh21⟩, hb⟩
      have HBq := Lib.hid (HB.out.trans (hb.mono HB.out.size))
      clear HB
      have HB := HBq
      clear HBq
      have HR1q := Lib.hid (HR1.out.trans (hb.mono HR1.out.size))
      clear HR1
      have HR1 := HR1q
      clear HR1q
      have T0q := Lib.hid (T0.out.next hb)
      clear T0
      have T0 := T0q
      clear T0q
      have HHq := Lib.hid (HH.out.next hb)
      clear HH
      have HH := HHq
      clear HHq
      have GGq := Lib.hid (GG.out.next hb)
      clear GG
      have GG := GGq
      clear GGq
      have BXq := Lib.hid (BX.out.next hb)
      clear BX
      have BX := BXq
      clear BXq
      have BYq := Lib.hid (BY.out.next hb)
      clear BY
      have BY := BYq
      clear BYq
      have T1q := Lib.hid (T1.out.next hb)
      clear T1
      have T1 := T1q
      clear T1q
      have Z0q := Lib.hid (Z0.out.next hb)
      clear Z0
      have Z0 := Z0q
      clear Z0q
      have Z1q := Lib.hid (Z1.out.next hb)
      clear Z1
      have Z1 := Z1q
      clear Z1q
      have Z2q := Lib.hid (Z2.out.next hb)
      clear Z2
      have Z2 := Z2q
      clear Z2q
      have Z3q := Lib.hid (Z3.out.next hb)
      clear Z3
      have Z3 := Z3q
      clear Z3q
      have HXq := Lib.hid (HX.out.next hb)
      clear HX
      have HX := HXq
      clear HXq
      clear hb
      have H8 := Lib.hid hh21
      clear hh21 z0
      have hb := Below.alloc (Below.refl w6.heap.size w6) (Nat.le_refl _) (.cells #[.int .i64 x.id, .slice A21 m21 c21, .int .i64 x.frm, .int .i64 x.to] 36)
      have B8q := Lib.hid (boxH_new w6 x A21 m21 c21)
      have HBq := Lib.hid (HB.out.trans (hb.mono HB.out.size))
      clear HB
      have HB := HBq
      clear HBq
      have HR1q := Lib.hid (HR1.out.trans (hb.mono HR1.out.size))
      clear HR1
      have HR1 := HR1q
      clear HR1q
      have T0q := Lib.hid (T0.out.next hb)
      clear T0
      have T0 := T0q
      clear T0q
      have HHq := Lib.hid (HH.out.next hb)
      clear HH
      have HH := HHq
      clear HHq
      have GGq := Lib.hid (GG.out.next hb)
      clear GG
      have GG := GGq
      clear GGq
      have BXq := Lib.hid (BX.out.next hb)
      clear BX
      have BX := BXq
      clear BXq
      have BYq := Lib.hid (BY.out.next hb)
      clear BY
      have BY := BYq
      clear BYq
      have T1q := Lib.hid (T1.out.next hb)
      clear T1
      have T1 := T1q
      clear T1q
      have Z0q := Lib.hid (Z0.out.next hb)
      clear Z0
      have Z0 := Z0q
      clear Z0q
      have Z1q := Lib.hid (Z1.out.next hb)
      clear Z1
      have Z1 := Z1q
      clear Z1q
      have Z2q := Lib.hid (Z2.out.next hb)
      clear Z2
      have Z2 := Z2q
      clear Z2q
      have Z3q := Lib.hid (Z3.out.next hb)
      clear Z3
      have Z3 := Z3q
      clear Z3q
      have HXq := Lib.hid (HX.out.next hb)
      clear HX
      have HX := HXq
      clear HXq
      have H8q := Lib.hid (H8.out.next hb)
      clear H8
      have H8 := H8q
      clear H8q
      clear hb
      have B8 := B8q
      clear B8q
      have s0 := B8.out.c0
      have s1 := B8.out.c1
      have s2 := B8.out.c2
      have s3 := B8.out.c3
      have z0 := Z0.out.at'
      have z1 := Z1.out.at'
      have z2 := Z2.out.at'
      have z3 := Z3.out.at'
      go_wp2
      have zc0 : ∀ p : Later (w6.alloc (.cells #[.int .i64 x.id, .slice A21 m21 c21, .int .i64 x.frm, .int .i64 x.to] 36)), p.now.cell? ⟨w6.heap.size, 0, none⟩ = some (.int .i64 x.id) := fun _ => Later.cell B8.out.lt B8.out.c0
      have zc1 : ∀ p : Later (w6.alloc (.cells #[.int .i64 x.id, .slice A21 m21 c21, .int .i64 x.frm, .int .i64 x.to] 36)), p.now.cell? ⟨w6.heap.size, 1, none⟩ = some (.slice A21 m21 c21) := fun _ => Later.cell B8.out.lt B8.out.c1
      have zc2 : ∀ p : Later (w6.alloc (.cells #[.int .i64 x.id, .slice A21 m21 c21, .int .i64 x.frm, .int .i64 x.to] 36)), p.now.cell? ⟨w6.heap.size, 2, none⟩ = some (.int .i64 x.frm) := fun _ => Later.cell B8.out.lt B8.out.c2
      have zc3 : ∀ p : Later (w6.alloc (.cells #[.int .i64 x.id, .slice A21 m21 c21, .int .i64 x.frm, .int .i64 x.to] 36)), p.now.cell? ⟨w6.heap.size, 3, none⟩ = some (.int .i64 x.to) := fun _ => Later.cell B8.out.lt B8.out.c3
      have zc4 : ∀ p : Later (w6.alloc (.cells #[.int .i64 x.id, .slice A21 m21 c21, .int .i64 x.frm, .int .i64 x.to] 36)), p.now.cell? ⟨b, off + k * 4, none⟩ = some (.int .i64 x.id) := fun _ => Later.cell Z0.out.lt z0
      have zc5 : ∀ p : Later (w6.alloc (.cells #[.int .i64 x.id, .slice A21 m21 c21, .int .i64 x.frm, .int .i64 x.to] 36)), p.now.cell? ⟨b, off + k * 4 + 1, none⟩ = some (.slice A8 m8 c8) := fun _ => Later.cell Z1.out.lt z1
      have zc6 : ∀ p : Later (w6.alloc (.cells #[.int .i64 x.id, .slice A21 m21 c21, .int .i64 x.frm, .int .i64 x.to] 36)), p.now.cell? ⟨b, off + k * 4 + 2, none⟩ = some (.int .i64 x.frm) := fun _ => Later.cell Z2.out.lt z2
      have zc7 : ∀ p : Later (w6.alloc (.cells #[.int .i64 x.id, .slice A21 m21 c21, .int .i64 x.frm, .int .i64 x.to] 36)), p.now.cell? ⟨b, off + k * 4 + 3, none⟩ = some (.int .i64 x.to) := fun _ => Later.cell Z3.out.lt z3
      refine wp_region_later (by kernel_rfl) (by kernel_rfl) ?_
      repeat (first | go_big_quiet_skip | (go_big_quiet_want; go_big_quiet_op; first | go_big_quiet_on | (apply Exists.intro; refine ⟨fun pz => ?_, ?_⟩; (first | (go_at_call 26; exact Calls.later_of (refOne_any (H8.out.next pz.bel) (HX.out.next pz.bel) (sameH_iff.2 rfl))) | fail); go_big_quiet_on)))
      refine wpQuiet_nil ?_
      intro _ hw'
      obtain ⟨pz, rfl⟩ := hw'
      obtain ⟨w7, hb⟩ := pz
      try dsimp only
      clear zc0 zc1 zc2 zc3 zc4 zc5 zc6 zc7
      have HBq := Lib.hid (HB.out.trans (hb.mono HB.out.size))
      clear HB
      have HB := HBq
      clear HBq
      have HR1q := Lib.hid (HR1.out.trans (hb.mono HR1.out.size))
      clear HR1
      have HR1 := HR1q
      clear HR1q
      have T0q := Lib.hid (T0.out.next hb)
      clear T0
      have T0 := T0q
      clear T0q
      have HHq := Lib.hid (HH.out.next hb)
      clear HH
      have HH := HHq
      clear HHq
      have GGq := Lib.hid (GG.out.next hb)
      clear GG
      have GG := GGq
      clear GGq
      have BXq := Lib.hid (BX.out.next hb)
      clear BX
      have BX := BXq
      clear BXq
      have BYq := Lib.hid (BY.out.next hb)
      clear BY
      have BY := BYq
      clear BYq
      have T1q := Lib.hid (T1.out.next hb)
      clear T1
      have T1 := T1q
      clear T1q
      have Z0q := Lib.hid (Z0.out.next hb)
      clear Z0
      have Z0 := Z0q
      clear Z0q
      have Z1q := Lib.hid (Z1.out.next hb)
      clear Z1
      have Z1 := Z1q
      clear Z1q
      have Z2q := Lib.hid (Z2.out.next hb)
      clear Z2
      have Z2 := Z2q
      clear Z2q
      have Z3q := Lib.hid (Z3.out.next hb)
      clear Z3
      have Z3 := Z3q
      clear Z3q
      have HXq := Lib.hid (HX.out.next hb)
      clear HX
      have HX := HXq
      clear HXq
      have H8q := Lib.hid (H8.out.next hb)
      clear H8
      have H8 := H8q
      clear H8q
      have B8q := Lib.hid (B8.out.next hb)
      clear B8
      have B8 := B8q
      clear B8q
      clear hb
      go_wp2
      go_roundw
      case rel => exact ⟨k + 1, by omega, by go_num, HR1.out⟩
      case measure => simp [intOf]; omega
    · have hkn : k = n := by omega
      have q0 := BX.out.c0
      have q1 := BX.out.c1
      have q2 := BX.out.c2
      have q3 := BX.out.c3
      have r0 := BY.out.c0
      have r1 := BY.out.c1
      have r2 := BY.out.c2
      have r3 := BY.out.c3
      go_wp2_with fail
      refine (h10_add H T1.out F1.out GG.out hmm3 EA1.out EA2.out).mono ?_
      rintro e w8 ⟨⟨A31, c31, rfl, hr31, hn31, hc31⟩, hb⟩
      have HBq := Lib.hid (HB.out.trans (hb.mono HB.out.size))
      clear HB
      have HB := HBq
      clear HBq
      have T0q := Lib.hid (T0.out.next hb)
      clear T0
      have T0 := T0q
      clear T0q
      have HHq := Lib.hid (HH.out.next hb)
      clear HH
      have HH := HHq
      clear HHq
      have GGq := Lib.hid (GG.out.next hb)
      clear GG
      have GG := GGq
      clear GGq
      have BXq := Lib.hid (BX.out.next hb)
      clear BX
      have BX := BXq
      clear BXq
      have BYq := Lib.hid (BY.out.next hb)
      clear BY
      have BY := BYq
      clear BYq
      have T1q := Lib.hid (T1.out.next hb)
      clear T1
      have T1 := T1q
      clear T1q
      clear hb
      have T31 := Lib.hid (ans_ask hr31 hn31 hc31 (by have := FY.out; unfold maxLen; omega))
      clear hr31 hn31 hc31
      clear q0 q1 q2 q3 r0 r1 r2 r3
      have q0 := BX.out.c0
      have q1 := BX.out.c1
      have q2 := BX.out.c2
      have q3 := BX.out.c3
      have r0 := BY.out.c0
      have r1 := BY.out.c1
      have r2 := BY.out.c2
      have r3 := BY.out.c3
      go_wp2_with fail
      refine (h10_add H T0.out F0.out GG.out hmm3 EB1.out EB2.out).mono ?_
      rintro e w9 ⟨⟨A32, c32, rfl, hr32, hn32, hc32⟩, hb⟩
      have HBq := Lib.hid (HB.out.trans (hb.mono HB.out.size))
      clear HB
      have HB := HBq
      clear HBq
      have T0q := Lib.hid (T0.out.next hb)
      clear T0
      have T0 := T0q
      clear T0q
      have HHq := Lib.hid (HH.out.next hb)
      clear HH
      have HH := HHq
      clear HHq
      have GGq := Lib.hid (GG.out.next hb)
      clear GG
      have GG := GGq
      clear GGq
      have BXq := Lib.hid (BX.out.next hb)
      clear BX
      have BX := BXq
      clear BXq
      have BYq := Lib.hid (BY.out.next hb)
      clear BY
      have BY := BYq
      clear BYq
      have T1q := Lib.hid (T1.out.next hb)
      clear T1
      have T1 := T1q
      clear T1q
      have T31q := Lib.hid (T31.out.next hb)
      clear T31
      have T31 := T31q
      clear T31q
      clear hb
      have T32 := Lib.hid (ans_ask hr32 hn32 hc32 (by have := FZ.out.1; unfold maxLen; omega))
      clear hr32 hn32 hc32
      clear q0 q1 q2 q3 r0 r1 r2 r3
      have q0 := BX.out.c0
      have q1 := BX.out.c1
      have q2 := BX.out.c2
      have q3 := BX.out.c3
      have r0 := BY.out.c0
      have r1 := BY.out.c1
      have r2 := BY.out.c2
      have r3 := BY.out.c3
      go_wp2_with fail
      refine (h10_add H T32.out FZ.out HH.out hmm EC1.out EC2.out).mono ?_
      rintro e w10 ⟨⟨A33, c33, rfl, hr33, hn33, hc33⟩, hb⟩
      have HBq := Lib.hid (HB.out.trans (hb.mono HB.out.size))
      clear HB
      have HB := HBq
      clear HBq
      have T0q := Lib.hid (T0.out.next hb)
      clear T0
      have T0 := T0q
      clear T0q
      have HHq := Lib.hid (HH.out.next hb)
      clear HH
      have HH := HHq
      clear HHq
      have GGq := Lib.hid (GG.out.next hb)
      clear GG
      have GG := GGq
      clear GGq
      have BXq := Lib.hid (BX.out.next hb)
      clear BX
      have BX := BXq
      clear BXq
      have BYq := Lib.hid (BY.out.next hb)
      clear BY
      have BY := BYq
      clear BYq
      have T1q := Lib.hid (T1.out.next hb)
      clear T1
      have T1 := T1q
      clear T1q
      have T31q := Lib.hid (T31.out.next hb)
      clear T31
      have T31 := T31q
      clear T31q
      have T32q := Lib.hid (T32.out.next hb)
      clear T32
      have T32 := T32q
      clear T32q
      clear hb
      have T33 := Lib.hid (ans_ask hr33 hn33 hc33 (by have := FW.out; unfold maxLen; omega))
      clear hr33 hn33 hc33
      clear q0 q1 q2 q3 r0 r1 r2 r3
      go_wp2
      go_ret
      exact ⟨rfl, HB.out⟩


theorem heldGets_walk (H : HeldOk) (A : Option Addr) (n c : Nat) (l : Tb) (A2 : Option Addr) (m c2 : Nat) (h : Hd) (A3 : Option Addr) (m3 c3 : Nat) (g : Hd) (w : World) (hl : TAsk w A n c l) (hh : HAsk w A2 m c2 h) (hg : HAsk w A3 m3 c3 g) : Calls Try.prog 6 #[.slice A n c, .agg #[.int .i64 h.id, .slice A2 m c2, .int .i64 h.frm, .int .i64 h.to], .agg #[.int .i64 g.id, .slice A3 m3 c3, .int .i64 g.frm, .int .i64 g.to]] w fun e w' => e = .returned (.bool true) ∧ Below w.heap.size w w' := by
  cases h0 : shortT l with
  | false => exact heldGets_l0 H A n c l A2 m c2 h A3 m3 c3 g w hl hh hg h0
  | true =>
  by_cases h60 : 60 < m
  · exact heldGets_l1 H A n c l A2 m c2 h A3 m3 c3 g w hl hh hg h0 h60
  by_cases h63 : 60 < m3
  · exact heldGets_l2 H A n c l A2 m c2 h A3 m3 c3 g w hl hh hg h0 h60 h63
  by_cases he : addE l h = 0
  case neg => exact heldGets_no H A n c l A2 m c2 h A3 m3 c3 g w hl hh hg h0 h60 h63 he
  have hma := add_ok.1 he
  by_cases hf : addE (insT l h) g = 0
  · have h2 := (add_two hma).1 (add_ok.1 hf)
    exact heldGets_ff H A n c l A2 m c2 h A3 m3 c3 g w hl hh hg h0 h60 h63 hma (add_ok.1 hf) h2.1 h2.2
  by_cases hgz : addE l g = 0
  · exact heldGets_fg H A n c l A2 m c2 h A3 m3 c3 g w hl hh hg h0 h60 h63 hma hf (add_ok.1 hgz) fun hk => hf (add_ok.2 ((add_two hma).2 ⟨add_ok.1 hgz, add_ok.1 hk⟩))
  · exact heldGets_fn H A n c l A2 m c2 h A3 m3 c3 g w hl hh hg h0 h60 h63 hma hf hgz

end Go.Proofs.Ytbiofikijehlcaa
