/- The reference's spec of layer 8 (bailiwickref08): a spec read from bytes: what it answers. -/
import Derived.Test.YtlpogkcfjbabaaaMg25
import Derived.Test.YtlpogkcfjbabaaaMg22
namespace Go.Proofs.Ytlpogkcfjbabaaa
open Go.RowKit

def SpOk (s : Sp) (t : Bs) (B : Nat) (w : World) (e : Ending) (w' : World) : Prop :=
  (∃ A c, e = .returned (.tuple #[spV s, .slice A t.length c, .int .i64 0]) ∧ BAsk w' B A t.length c t) ∧ Below w.heap.size w w'
def SpErr (er : Nat) (w : World) (e : Ending) (w' : World) : Prop := e = .returned (.tuple #[.agg #[.int .i64 0, .int .i64 0, .int .i64 0, .string ⟨#[]⟩, .bool false, .int .i64 0, .int .i64 0], .slice none 0 0, .int .i64 (er : Int)]) ∧ Below w.heap.size w w'
def SpPost (r : Except Nat (Sp × Bs)) (B : Nat) (w : World) (e : Ending) (w' : World) : Prop := match r with
  | .ok (s, t) => SpOk s t B w e w'
  | .error er => SpErr er w e w'
theorem sperr_mk {er B : Nat} {w w' : World} {r : Except Nat (Sp × Bs)} (h : r = .error er) (hb : Below w.heap.size w w') : SpPost r B w (.returned (.tuple #[.agg #[.int .i64 0, .int .i64 0, .int .i64 0, .string ⟨#[]⟩, .bool false, .int .i64 0, .int .i64 0], .slice none 0 0, .int .i64 (er : Int)])) w' := by
  rw [h]; exact ⟨rfl, hb⟩
/-- the three blocks that the reading has: its result, nothing, the numbers -/
structure SRow (w wr : World) (a0 a1 a2 a3 : Nat) : Prop where
  r0 : wr.heap[w.heap.size]? = some (.cells #[.int .i64 0, .int .i64 0, .int .i64 0, .string ⟨#[]⟩, .bool false, .int .i64 0, .int .i64 0] 23 (0, 0))
  r1 : wr.heap[w.heap.size + 1]? = some (.cells #[.int .i64 0, .int .i64 0, .int .i64 0, .string ⟨#[]⟩, .bool false, .int .i64 0, .int .i64 0] 23 (0, 0))
  r2 : wr.heap[w.heap.size + 2]? = some (.cells #[.int .u64 a0, .int .u64 a1, .int .u64 a2, .int .u64 a3] 97 (0, 0))
  bel : Below w.heap.size w wr
section
variable {w wr w' : World} {a0 a1 a2 a3 : Nat}
theorem SRow.lt (h : SRow w wr a0 a1 a2 a3) : w.heap.size + 2 < wr.heap.size := (Array.getElem?_eq_some_iff.1 h.r2).1
theorem SRow.next (h : SRow w wr a0 a1 a2 a3) (hb : Below wr.heap.size wr w') : SRow w w' a0 a1 a2 a3 :=
  ⟨(hb.block _ (by have := h.lt; omega)).trans h.r0, (hb.block _ (by have := h.lt; omega)).trans h.r1, (hb.block _ h.lt).trans h.r2, h.bel.trans (hb.mono h.bel.size)⟩
theorem SRow.made (w : World) : SRow w (((w.alloc (.cells #[.int .i64 0, .int .i64 0, .int .i64 0, .string ⟨#[]⟩, .bool false, .int .i64 0, .int .i64 0] 23)).alloc (.cells #[.int .i64 0, .int .i64 0, .int .i64 0, .string ⟨#[]⟩, .bool false, .int .i64 0, .int .i64 0] 23)).alloc (.cells #[.int .u64 0, .int .u64 0, .int .u64 0, .int .u64 0] 97)) 0 0 0 0 := by
  refine ⟨?_, ?_, ?_, ((((Below.refl _ _).alloc (Nat.le_refl _) _).alloc (by simp) _).alloc (by simp; omega) _)⟩
  · rw [Below.heap_alloc _ _ _ (by simp; omega), Below.heap_alloc _ _ _ (by simp)]; exact heap_alloc_new w _
  · rw [Below.heap_alloc _ _ _ (by simp)]
    have := heap_alloc_new (w.alloc (.cells #[.int .i64 0, .int .i64 0, .int .i64 0, .string ⟨#[]⟩, .bool false, .int .i64 0, .int .i64 0] 23)) (.cells #[.int .i64 0, .int .i64 0, .int .i64 0, .string ⟨#[]⟩, .bool false, .int .i64 0, .int .i64 0] 23)
    simpa using this
  · have := heap_alloc_new ((w.alloc (.cells #[.int .i64 0, .int .i64 0, .int .i64 0, .string ⟨#[]⟩, .bool false, .int .i64 0, .int .i64 0] 23)).alloc (.cells #[.int .i64 0, .int .i64 0, .int .i64 0, .string ⟨#[]⟩, .bool false, .int .i64 0, .int .i64 0] 23)) (.cells #[.int .u64 0, .int .u64 0, .int .u64 0, .int .u64 0] 97)
    simpa using this
theorem SRow.set0 (h : SRow w wr a0 a1 a2 a3) (x : Nat) : SRow w (wr.setCell ⟨w.heap.size + 2, 0, none⟩ (.int .u64 x)) x a1 a2 a3 :=
  ⟨(heap_setCell_other wr _ _ _ (by show w.heap.size ≠ w.heap.size + 2; omega)).trans h.r0, (heap_setCell_other wr _ _ _ (by show w.heap.size + 1 ≠ w.heap.size + 2; omega)).trans h.r1, (heap_setCell_same wr _ 0 _ _ _ h.r2).trans rfl, h.bel.setCell (by show w.heap.size ≤ w.heap.size + 2; omega) _⟩
theorem SRow.n0 (h : SRow w wr a0 a1 a2 a3) : wr.cell? ⟨w.heap.size + 2, 0, none⟩ = some (.int .u64 a0) := (cell_of_row wr _ 0 _ _ (0, 0) h.r2).trans rfl
theorem SRow.set1 (h : SRow w wr a0 a1 a2 a3) (x : Nat) : SRow w (wr.setCell ⟨w.heap.size + 2, 1, none⟩ (.int .u64 x)) a0 x a2 a3 :=
  ⟨(heap_setCell_other wr _ _ _ (by show w.heap.size ≠ w.heap.size + 2; omega)).trans h.r0, (heap_setCell_other wr _ _ _ (by show w.heap.size + 1 ≠ w.heap.size + 2; omega)).trans h.r1, (heap_setCell_same wr _ 1 _ _ _ h.r2).trans rfl, h.bel.setCell (by show w.heap.size ≤ w.heap.size + 2; omega) _⟩
theorem SRow.n1 (h : SRow w wr a0 a1 a2 a3) : wr.cell? ⟨w.heap.size + 2, 1, none⟩ = some (.int .u64 a1) := (cell_of_row wr _ 1 _ _ (0, 0) h.r2).trans rfl
theorem SRow.set2 (h : SRow w wr a0 a1 a2 a3) (x : Nat) : SRow w (wr.setCell ⟨w.heap.size + 2, 2, none⟩ (.int .u64 x)) a0 a1 x a3 :=
  ⟨(heap_setCell_other wr _ _ _ (by show w.heap.size ≠ w.heap.size + 2; omega)).trans h.r0, (heap_setCell_other wr _ _ _ (by show w.heap.size + 1 ≠ w.heap.size + 2; omega)).trans h.r1, (heap_setCell_same wr _ 2 _ _ _ h.r2).trans rfl, h.bel.setCell (by show w.heap.size ≤ w.heap.size + 2; omega) _⟩
theorem SRow.n2 (h : SRow w wr a0 a1 a2 a3) : wr.cell? ⟨w.heap.size + 2, 2, none⟩ = some (.int .u64 a2) := (cell_of_row wr _ 2 _ _ (0, 0) h.r2).trans rfl
theorem SRow.set3 (h : SRow w wr a0 a1 a2 a3) (x : Nat) : SRow w (wr.setCell ⟨w.heap.size + 2, 3, none⟩ (.int .u64 x)) a0 a1 a2 x :=
  ⟨(heap_setCell_other wr _ _ _ (by show w.heap.size ≠ w.heap.size + 2; omega)).trans h.r0, (heap_setCell_other wr _ _ _ (by show w.heap.size + 1 ≠ w.heap.size + 2; omega)).trans h.r1, (heap_setCell_same wr _ 3 _ _ _ h.r2).trans rfl, h.bel.setCell (by show w.heap.size ≤ w.heap.size + 2; omega) _⟩
theorem SRow.n3 (h : SRow w wr a0 a1 a2 a3) : wr.cell? ⟨w.heap.size + 2, 3, none⟩ = some (.int .u64 a3) := (cell_of_row wr _ 3 _ _ (0, 0) h.r2).trans rfl
theorem SRow.nf (h : SRow w wr a0 a1 a2 a3) (j : Nat) : wr.frozen? ⟨w.heap.size + 2, j, none⟩ = false := frozen_of_row wr _ j _ _ h.r2
end
theorem specR_nil : specR [] = .error 2 := rfl
theorem specR_other {c : UInt8} {s : Bs} (h : c ≠ 1) : specR (c :: s) = .error 3 := by
  unfold specR
  rw [bindR_at (x := c) (t := s) rfl]
  exact bindR_err (by unfold chkR; rw [if_neg h])
/-- behind the four numbers -/
def specT (a b g n : Nat) : Rd Sp := bindR (chkR (n ≤ 16)) fun _ => bindR (takeR n) fun tg => bindR byteR fun o => bindR (chkR (o.toNat ≤ 1)) fun _ => bindR numR fun l => bindR numR fun p => bindR (chkR (rightS ⟨a, b, g, ⟨tg.toArray⟩, o == 1, l, unsignN p⟩ = true)) fun _ => retR ⟨a, b, g, ⟨tg.toArray⟩, o == 1, l, unsignN p⟩
/-- behind the tag -/
def specU (a b g : Nat) (tg : Bs) : Rd Sp := bindR byteR fun o => bindR (chkR (o.toNat ≤ 1)) fun _ => bindR numR fun l => bindR numR fun p => bindR (chkR (rightS ⟨a, b, g, ⟨tg.toArray⟩, o == 1, l, unsignN p⟩ = true)) fun _ => retR ⟨a, b, g, ⟨tg.toArray⟩, o == 1, l, unsignN p⟩
theorem specR_one (s : Bs) : specR (1 :: s) = (bindR numR fun a => bindR numR fun b => bindR numR fun g => bindR numR fun n => specT a b g n) s := by
  unfold specR specT
  rw [bindR_at (x := 1) (t := s) rfl, bindR_at (chk_ok rfl)]

set_option maxRecDepth 100000 in
set_option maxHeartbeats 16000000 in
theorem refSpec_any (A : Option Addr) (n c : Nat) (bs : Bs) (B : Nat) (w : World) (h : BAsk w B A n c bs) (hB : B ≤ w.heap.size) :
    Calls Try.prog 54 #[.slice A n c] w (SpPost (specR bs) B w) := by
  have H := Lib.hid h
  have HL := Lib.hid h.reads.len
  have HBW := Lib.hid hB
  have hn := h.few
  unfold maxLen at hn
  clear h hB
  obtain ⟨R, hR⟩ : ∃ R, specR bs = R := ⟨_, rfl⟩
  have HR := Lib.hid hR
  rw [hR]
  clear hR
  by_cases hn0 : n = 0
  · have e0 : Hid (R = .error 2) := Lib.hid (by rw [← HR.out, show bs = [] from List.eq_nil_of_length_eq_zero (by rw [HL.out]; exact hn0)]; rfl)
    subst hn0
    go_enter Try.func54, Try.ntmps54
    go_wp2
    refine bodyPost_ret (v := .tuple #[.agg #[.int .i64 0, .int .i64 0, .int .i64 0, .string ⟨#[]⟩, .bool false, .int .i64 0, .int .i64 0], .slice none 0 0, .int .i64 2]) (by simp [results, Try.results54, go_sem]) rfl (sperr_mk e0.out ?_)
    exact ((Below.refl _ _).alloc (Nat.le_refl _) _).alloc (by simp) _
  · have hnd : ((n : Int) == 0) = false := by simp; omega
    have hnp : 0 < n := by omega
    obtain ⟨b, off, rfl, hb, hc⟩ := H.out.reads.one hnp
    simp only [Nat.add_zero] at hc
    obtain ⟨x, s, hxs⟩ : ∃ x s, bs = x :: s := by
      cases bs with
      | nil => have := HL.out; simp at this; omega
      | cons x s => exact ⟨x, s, rfl⟩
    subst hxs
    obtain ⟨y, hy⟩ : ∃ y, x.toNat = y := ⟨_, rfl⟩
    have HY := Lib.hid hy
    rw [show (x :: s).getD 0 0 = x from rfl, hy] at hc
    clear hy hn0
    by_cases hy2 : y = 1
    · obtain rfl : x = 1 := by rw [← toNat_ofNat8 x, HY.out, hy2]; rfl
      subst hy2
      obtain ⟨A1, hA1, hcut⟩ := H.out.cutN (k := 1) (by omega)
      have hcapn := H.out.cap
      have HS : Hid ((bindR numR fun a => bindR numR fun b => bindR numR fun g => bindR numR fun n => specT a b g n) s = R) := Lib.hid (by rw [← HR.out, specR_one])
      obtain ⟨W, hW⟩ : ∃ W, W = ((w.alloc (.cells #[.int .i64 0, .int .i64 0, .int .i64 0, .string ⟨#[]⟩, .bool false, .int .i64 0, .int .i64 0] 23)).alloc (.cells #[.int .i64 0, .int .i64 0, .int .i64 0, .string ⟨#[]⟩, .bool false, .int .i64 0, .int .i64 0] 23)).alloc (.cells #[.int .u64 0, .int .u64 0, .int .u64 0, .int .u64 0] 97) := ⟨_, rfl⟩
      have SR0 : Hid (SRow w W 0 0 0 0) := Lib.hid (by rw [hW]; exact SRow.made w)
      have HA0 : Hid (BAsk W B A1 (n - 1) (c - 1) s) := Lib.hid ((show BAsk w B A1 (n - 1) (c - 1) s from hcut).below (SR0.out.bel.mono HBW.out))
      have hcell : W.cell? ⟨b, off, none⟩ = some (.int .u8 ((1 : Nat) : Int)) := (SR0.out.bel.cell (p := ⟨b, off, none⟩) (by show b < w.heap.size; have := HBW.out; omega)).trans hc
      have hbw : b < w.heap.size := by have := HBW.out; omega
      clear hcut hcell
      cases g0 : numR s with
      | error er =>
        have G0 := Lib.hid g0
        have her : Hid (er ≠ 0) := Lib.hid (nn_num _ _ g0)
        have herd : ((er : Int) != 0) = true := by simp; exact her.out
        have e0 : Hid (R = .error er) := Lib.hid (by rw [← HS.out, bindR_err g0])
        clear g0
        go_enter Try.func54, Try.ntmps54
        go_wp2
        refine wp_loop_rounds 6 ?_
        rw [rounds_succ]
        go_wp2_with fail
        rw [← hW]
        refine (refGot_err HA0.out G0.out).mono ?_
        rintro e u0 ⟨rfl, hb⟩
        have SE := Lib.hid (SR0.out.next hb)
        clear hb
        have hc0 : ∀ j, u0.cell? ⟨w.heap.size, j, none⟩ = _ := fun j => cell_of_row u0 _ j _ _ (0, 0) SE.out.r0
        have hc1 : ∀ j, u0.cell? ⟨w.heap.size + 1, j, none⟩ = _ := fun j => cell_of_row u0 _ j _ _ (0, 0) SE.out.r1
        have hf0 : ∀ j, u0.frozen? ⟨w.heap.size, j, none⟩ = false := fun j => frozen_of_row u0 _ j _ _ SE.out.r0
        go_wp2
        refine bodyPost_ret (v := .tuple #[.agg #[.int .i64 0, .int .i64 0, .int .i64 0, .string ⟨#[]⟩, .bool false, .int .i64 0, .int .i64 0], .slice none 0 0, .int .i64 (er : Int)]) (by simp [results, Try.results54, go_sem, hc0]) rfl (sperr_mk e0.out ?_)
        exact (((((((SE.out.bel.setCell (Nat.le_refl _) _).setCell (Nat.le_refl _) _).setCell (Nat.le_refl _) _).setCell (Nat.le_refl _) _).setCell (Nat.le_refl _) _).setCell (Nat.le_refl _) _).setCell (Nat.le_refl _) _)
      | ok r0 =>
        obtain ⟨x0, t0⟩ := r0
        have G0 := Lib.hid g0
        have hx0 := (num_back g0).2
        clear g0
        cases g1 : numR t0 with
        | error er =>
          have G1 := Lib.hid g1
          have her : Hid (er ≠ 0) := Lib.hid (nn_num _ _ g1)
          have herd : ((er : Int) != 0) = true := by simp; exact her.out
          have e0 : Hid (R = .error er) := Lib.hid (by rw [← HS.out, bindR_at G0.out, bindR_err g1])
          clear g1
          go_enter Try.func54, Try.ntmps54
          go_wp2
          refine wp_loop_rounds 6 ?_
          rw [rounds_succ]
          go_wp2_with fail
          rw [← hW]
          refine (refGot_ok HA0.out G0.out).mono ?_
          rintro e u0 ⟨⟨A0, c0, rfl, ht⟩, hb⟩
          have SQ0 := Lib.hid (SR0.out.next hb)
          have cn := SQ0.out.n0
          have cf := SQ0.out.nf 0
          have SR1 := Lib.hid (SQ0.out.set0 x0)
          have HA1 := Lib.hid (ht.below ((Below.refl B u0).setCell (p := ⟨w.heap.size + 2, 0, none⟩) (by show B ≤ w.heap.size + 2; have := HBW.out; omega) (.int .u64 x0)))
          clear hb ht
          go_wp2
          clear cn cf
          rw [rounds_succ]
          go_wp2_with fail
          refine (refGot_err HA1.out G1.out).mono ?_
          rintro e u1 ⟨rfl, hb⟩
          have SE := Lib.hid (SR1.out.next hb)
          clear hb
          have hc0 : ∀ j, u1.cell? ⟨w.heap.size, j, none⟩ = _ := fun j => cell_of_row u1 _ j _ _ (0, 0) SE.out.r0
          have hc1 : ∀ j, u1.cell? ⟨w.heap.size + 1, j, none⟩ = _ := fun j => cell_of_row u1 _ j _ _ (0, 0) SE.out.r1
          have hf0 : ∀ j, u1.frozen? ⟨w.heap.size, j, none⟩ = false := fun j => frozen_of_row u1 _ j _ _ SE.out.r0
          go_wp2
          refine bodyPost_ret (v := .tuple #[.agg #[.int .i64 0, .int .i64 0, .int .i64 0, .string ⟨#[]⟩, .bool false, .int .i64 0, .int .i64 0], .slice none 0 0, .int .i64 (er : Int)]) (by simp [results, Try.results54, go_sem, hc0]) rfl (sperr_mk e0.out ?_)
          exact (((((((SE.out.bel.setCell (Nat.le_refl _) _).setCell (Nat.le_refl _) _).setCell (Nat.le_refl _) _).setCell (Nat.le_refl _) _).setCell (Nat.le_refl _) _).setCell (Nat.le_refl _) _).setCell (Nat.le_refl _) _)
        | ok r1 =>
          obtain ⟨x1, t1⟩ := r1
          have G1 := Lib.hid g1
          have hx1 := (num_back g1).2
          clear g1
          cases g2 : numR t1 with
          | error er =>
            have G2 := Lib.hid g2
            have her : Hid (er ≠ 0) := Lib.hid (nn_num _ _ g2)
            have herd : ((er : Int) != 0) = true := by simp; exact her.out
            have e0 : Hid (R = .error er) := Lib.hid (by rw [← HS.out, bindR_at G0.out, bindR_at G1.out, bindR_err g2])
            clear g2
            go_enter Try.func54, Try.ntmps54
            go_wp2
            refine wp_loop_rounds 6 ?_
            rw [rounds_succ]
            go_wp2_with fail
            rw [← hW]
            refine (refGot_ok HA0.out G0.out).mono ?_
            rintro e u0 ⟨⟨A0, c0, rfl, ht⟩, hb⟩
            have SQ0 := Lib.hid (SR0.out.next hb)
            have cn := SQ0.out.n0
            have cf := SQ0.out.nf 0
            have SR1 := Lib.hid (SQ0.out.set0 x0)
            have HA1 := Lib.hid (ht.below ((Below.refl B u0).setCell (p := ⟨w.heap.size + 2, 0, none⟩) (by show B ≤ w.heap.size + 2; have := HBW.out; omega) (.int .u64 x0)))
            clear hb ht
            go_wp2
            clear cn cf
            rw [rounds_succ]
            go_wp2_with fail
            refine (refGot_ok HA1.out G1.out).mono ?_
            rintro e u1 ⟨⟨A1, c1, rfl, ht⟩, hb⟩
            have SQ1 := Lib.hid (SR1.out.next hb)
            have cn := SQ1.out.n1
            have cf := SQ1.out.nf 1
            have SR2 := Lib.hid (SQ1.out.set1 x1)
            have HA2 := Lib.hid (ht.below ((Below.refl B u1).setCell (p := ⟨w.heap.size + 2, 1, none⟩) (by show B ≤ w.heap.size + 2; have := HBW.out; omega) (.int .u64 x1)))
            clear hb ht
            go_wp2
            clear cn cf
            rw [rounds_succ]
            go_wp2_with fail
            refine (refGot_err HA2.out G2.out).mono ?_
            rintro e u2 ⟨rfl, hb⟩
            have SE := Lib.hid (SR2.out.next hb)
            clear hb
            have hc0 : ∀ j, u2.cell? ⟨w.heap.size, j, none⟩ = _ := fun j => cell_of_row u2 _ j _ _ (0, 0) SE.out.r0
            have hc1 : ∀ j, u2.cell? ⟨w.heap.size + 1, j, none⟩ = _ := fun j => cell_of_row u2 _ j _ _ (0, 0) SE.out.r1
            have hf0 : ∀ j, u2.frozen? ⟨w.heap.size, j, none⟩ = false := fun j => frozen_of_row u2 _ j _ _ SE.out.r0
            go_wp2
            refine bodyPost_ret (v := .tuple #[.agg #[.int .i64 0, .int .i64 0, .int .i64 0, .string ⟨#[]⟩, .bool false, .int .i64 0, .int .i64 0], .slice none 0 0, .int .i64 (er : Int)]) (by simp [results, Try.results54, go_sem, hc0]) rfl (sperr_mk e0.out ?_)
            exact (((((((SE.out.bel.setCell (Nat.le_refl _) _).setCell (Nat.le_refl _) _).setCell (Nat.le_refl _) _).setCell (Nat.le_refl _) _).setCell (Nat.le_refl _) _).setCell (Nat.le_refl _) _).setCell (Nat.le_refl _) _)
          | ok r2 =>
            obtain ⟨x2, t2⟩ := r2
            have G2 := Lib.hid g2
            have hx2 := (num_back g2).2
            clear g2
            cases g3 : numR t2 with
            | error er =>
              have G3 := Lib.hid g3
              have her : Hid (er ≠ 0) := Lib.hid (nn_num _ _ g3)
              have herd : ((er : Int) != 0) = true := by simp; exact her.out
              have e0 : Hid (R = .error er) := Lib.hid (by rw [← HS.out, bindR_at G0.out, bindR_at G1.out, bindR_at G2.out, bindR_err g3])
              clear g3
              go_enter Try.func54, Try.ntmps54
              go_wp2
              refine wp_loop_rounds 6 ?_
              rw [rounds_succ]
              go_wp2_with fail
              rw [← hW]
              refine (refGot_ok HA0.out G0.out).mono ?_
              rintro e u0 ⟨⟨A0, c0, rfl, ht⟩, hb⟩
              have SQ0 := Lib.hid (SR0.out.next hb)
              have cn := SQ0.out.n0
              have cf := SQ0.out.nf 0
              have SR1 := Lib.hid (SQ0.out.set0 x0)
              have HA1 := Lib.hid (ht.below ((Below.refl B u0).setCell (p := ⟨w.heap.size + 2, 0, none⟩) (by show B ≤ w.heap.size + 2; have := HBW.out; omega) (.int .u64 x0)))
              clear hb ht
              go_wp2
              clear cn cf
              rw [rounds_succ]
              go_wp2_with fail
              refine (refGot_ok HA1.out G1.out).mono ?_
              rintro e u1 ⟨⟨A1, c1, rfl, ht⟩, hb⟩
              have SQ1 := Lib.hid (SR1.out.next hb)
              have cn := SQ1.out.n1
              have cf := SQ1.out.nf 1
              have SR2 := Lib.hid (SQ1.out.set1 x1)
              have HA2 := Lib.hid (ht.below ((Below.refl B u1).setCell (p := ⟨w.heap.size + 2, 1, none⟩) (by show B ≤ w.heap.size + 2; have := HBW.out; omega) (.int .u64 x1)))
              clear hb ht
              go_wp2
              clear cn cf
              rw [rounds_succ]
              go_wp2_with fail
              refine (refGot_ok HA2.out G2.out).mono ?_
              rintro e u2 ⟨⟨A2, c2, rfl, ht⟩, hb⟩
              have SQ2 := Lib.hid (SR2.out.next hb)
              have cn := SQ2.out.n2
              have cf := SQ2.out.nf 2
              have SR3 := Lib.hid (SQ2.out.set2 x2)
              have HA3 := Lib.hid (ht.below ((Below.refl B u2).setCell (p := ⟨w.heap.size + 2, 2, none⟩) (by show B ≤ w.heap.size + 2; have := HBW.out; omega) (.int .u64 x2)))
              clear hb ht
              go_wp2
              clear cn cf
              rw [rounds_succ]
              go_wp2_with fail
              refine (refGot_err HA3.out G3.out).mono ?_
              rintro e u3 ⟨rfl, hb⟩
              have SE := Lib.hid (SR3.out.next hb)
              clear hb
              have hc0 : ∀ j, u3.cell? ⟨w.heap.size, j, none⟩ = _ := fun j => cell_of_row u3 _ j _ _ (0, 0) SE.out.r0
              have hc1 : ∀ j, u3.cell? ⟨w.heap.size + 1, j, none⟩ = _ := fun j => cell_of_row u3 _ j _ _ (0, 0) SE.out.r1
              have hf0 : ∀ j, u3.frozen? ⟨w.heap.size, j, none⟩ = false := fun j => frozen_of_row u3 _ j _ _ SE.out.r0
              go_wp2
              refine bodyPost_ret (v := .tuple #[.agg #[.int .i64 0, .int .i64 0, .int .i64 0, .string ⟨#[]⟩, .bool false, .int .i64 0, .int .i64 0], .slice none 0 0, .int .i64 (er : Int)]) (by simp [results, Try.results54, go_sem, hc0]) rfl (sperr_mk e0.out ?_)
              exact (((((((SE.out.bel.setCell (Nat.le_refl _) _).setCell (Nat.le_refl _) _).setCell (Nat.le_refl _) _).setCell (Nat.le_refl _) _).setCell (Nat.le_refl _) _).setCell (Nat.le_refl _) _).setCell (Nat.le_refl _) _)
            | ok r3 =>
              obtain ⟨x3, t3⟩ := r3
              have G3 := Lib.hid g3
              have hx3 := (num_back g3).2
              clear g3
              have HT : Hid (specT x0 x1 x2 x3 t3 = R) := Lib.hid (by rw [← HS.out, bindR_at G0.out, bindR_at G1.out, bindR_at G2.out, bindR_at G3.out])
              by_cases h16 : 16 < x3
              · have e0 : Hid (R = .error 3) := Lib.hid (by rw [← HT.out]; unfold specT; exact bindR_err (by unfold chkR; rw [if_neg (by omega)]))
                have d16 : decide ((16 : Int) < (x3 : Int)) = true := by simp; omega
                clear h16
                go_enter Try.func54, Try.ntmps54
                go_wp2
                refine wp_loop_rounds 6 ?_
                rw [rounds_succ]
                go_wp2_with fail
                rw [← hW]
                refine (refGot_ok HA0.out G0.out).mono ?_
                rintro e u0 ⟨⟨A0, c0, rfl, ht⟩, hb⟩
                have SQ0 := Lib.hid (SR0.out.next hb)
                have cn := SQ0.out.n0
                have cf := SQ0.out.nf 0
                have SR1 := Lib.hid (SQ0.out.set0 x0)
                have HA1 := Lib.hid (ht.below ((Below.refl B u0).setCell (p := ⟨w.heap.size + 2, 0, none⟩) (by show B ≤ w.heap.size + 2; have := HBW.out; omega) (.int .u64 x0)))
                clear hb ht
                go_wp2
                clear cn cf
                rw [rounds_succ]
                go_wp2_with fail
                refine (refGot_ok HA1.out G1.out).mono ?_
                rintro e u1 ⟨⟨A1, c1, rfl, ht⟩, hb⟩
                have SQ1 := Lib.hid (SR1.out.next hb)
                have cn := SQ1.out.n1
                have cf := SQ1.out.nf 1
                have SR2 := Lib.hid (SQ1.out.set1 x1)
                have HA2 := Lib.hid (ht.below ((Below.refl B u1).setCell (p := ⟨w.heap.size + 2, 1, none⟩) (by show B ≤ w.heap.size + 2; have := HBW.out; omega) (.int .u64 x1)))
                clear hb ht
                go_wp2
                clear cn cf
                rw [rounds_succ]
                go_wp2_with fail
                refine (refGot_ok HA2.out G2.out).mono ?_
                rintro e u2 ⟨⟨A2, c2, rfl, ht⟩, hb⟩
                have SQ2 := Lib.hid (SR2.out.next hb)
                have cn := SQ2.out.n2
                have cf := SQ2.out.nf 2
                have SR3 := Lib.hid (SQ2.out.set2 x2)
                have HA3 := Lib.hid (ht.below ((Below.refl B u2).setCell (p := ⟨w.heap.size + 2, 2, none⟩) (by show B ≤ w.heap.size + 2; have := HBW.out; omega) (.int .u64 x2)))
                clear hb ht
                go_wp2
                clear cn cf
                rw [rounds_succ]
                go_wp2_with fail
                refine (refGot_ok HA3.out G3.out).mono ?_
                rintro e u3 ⟨⟨A3, c3, rfl, ht⟩, hb⟩
                have SQ3 := Lib.hid (SR3.out.next hb)
                have cn := SQ3.out.n3
                have cf := SQ3.out.nf 3
                have SR4 := Lib.hid (SQ3.out.set3 x3)
                have HA4 := Lib.hid (ht.below ((Below.refl B u3).setCell (p := ⟨w.heap.size + 2, 3, none⟩) (by show B ≤ w.heap.size + 2; have := HBW.out; omega) (.int .u64 x3)))
                clear hb ht
                go_wp2
                clear cn cf
                rw [rounds_succ]
                generalize u3.setCell ⟨w.heap.size + 2, 3, none⟩ (.int .u64 (x3 : Int)) = y3 at *
                have cn := SR4.out.n3
                have hc0 : ∀ j, y3.cell? ⟨w.heap.size, j, none⟩ = _ := fun j => cell_of_row y3 _ j _ _ (0, 0) SR4.out.r0
                have hc1 : ∀ j, y3.cell? ⟨w.heap.size + 1, j, none⟩ = _ := fun j => cell_of_row y3 _ j _ _ (0, 0) SR4.out.r1
                have hf0 : ∀ j, y3.frozen? ⟨w.heap.size, j, none⟩ = false := fun j => frozen_of_row y3 _ j _ _ SR4.out.r0
                go_wp2
                refine bodyPost_ret (v := .tuple #[.agg #[.int .i64 0, .int .i64 0, .int .i64 0, .string ⟨#[]⟩, .bool false, .int .i64 0, .int .i64 0], .slice none 0 0, .int .i64 3]) (by simp [results, Try.results54, go_sem, hc0]) rfl (sperr_mk e0.out ?_)
                exact (((((((SR4.out.bel.setCell (Nat.le_refl _) _).setCell (Nat.le_refl _) _).setCell (Nat.le_refl _) _).setCell (Nat.le_refl _) _).setCell (Nat.le_refl _) _).setCell (Nat.le_refl _) _).setCell (Nat.le_refl _) _)
              · have d16 : decide ((16 : Int) < (x3 : Int)) = false := by simp; omega
                have hx16 : x3 ≤ 16 := by omega
                by_cases hsh : t3.length < x3
                · have e0 : Hid (R = .error 2) := Lib.hid (by rw [← HT.out]; unfold specT; rw [bindR_at (chk_ok hx16)]; exact bindR_err (by unfold takeR; rw [if_pos hsh]))
                  clear h16
                  go_enter Try.func54, Try.ntmps54
                  go_wp2
                  refine wp_loop_rounds 6 ?_
                  rw [rounds_succ]
                  go_wp2_with fail
                  rw [← hW]
                  refine (refGot_ok HA0.out G0.out).mono ?_
                  rintro e u0 ⟨⟨A0, c0, rfl, ht⟩, hb⟩
                  have SQ0 := Lib.hid (SR0.out.next hb)
                  have cn := SQ0.out.n0
                  have cf := SQ0.out.nf 0
                  have SR1 := Lib.hid (SQ0.out.set0 x0)
                  have HA1 := Lib.hid (ht.below ((Below.refl B u0).setCell (p := ⟨w.heap.size + 2, 0, none⟩) (by show B ≤ w.heap.size + 2; have := HBW.out; omega) (.int .u64 x0)))
                  clear hb ht
                  go_wp2
                  clear cn cf
                  rw [rounds_succ]
                  go_wp2_with fail
                  refine (refGot_ok HA1.out G1.out).mono ?_
                  rintro e u1 ⟨⟨A1, c1, rfl, ht⟩, hb⟩
                  have SQ1 := Lib.hid (SR1.out.next hb)
                  have cn := SQ1.out.n1
                  have cf := SQ1.out.nf 1
                  have SR2 := Lib.hid (SQ1.out.set1 x1)
                  have HA2 := Lib.hid (ht.below ((Below.refl B u1).setCell (p := ⟨w.heap.size + 2, 1, none⟩) (by show B ≤ w.heap.size + 2; have := HBW.out; omega) (.int .u64 x1)))
                  clear hb ht
                  go_wp2
                  clear cn cf
                  rw [rounds_succ]
                  go_wp2_with fail
                  refine (refGot_ok HA2.out G2.out).mono ?_
                  rintro e u2 ⟨⟨A2, c2, rfl, ht⟩, hb⟩
                  have SQ2 := Lib.hid (SR2.out.next hb)
                  have cn := SQ2.out.n2
                  have cf := SQ2.out.nf 2
                  have SR3 := Lib.hid (SQ2.out.set2 x2)
                  have HA3 := Lib.hid (ht.below ((Below.refl B u2).setCell (p := ⟨w.heap.size + 2, 2, none⟩) (by show B ≤ w.heap.size + 2; have := HBW.out; omega) (.int .u64 x2)))
                  clear hb ht
                  go_wp2
                  clear cn cf
                  rw [rounds_succ]
                  go_wp2_with fail
                  refine (refGot_ok HA3.out G3.out).mono ?_
                  rintro e u3 ⟨⟨A3, c3, rfl, ht⟩, hb⟩
                  have SQ3 := Lib.hid (SR3.out.next hb)
                  have cn := SQ3.out.n3
                  have cf := SQ3.out.nf 3
                  have SR4 := Lib.hid (SQ3.out.set3 x3)
                  have HA4 := Lib.hid (ht.below ((Below.refl B u3).setCell (p := ⟨w.heap.size + 2, 3, none⟩) (by show B ≤ w.heap.size + 2; have := HBW.out; omega) (.int .u64 x3)))
                  clear hb ht
                  go_wp2
                  clear cn cf
                  rw [rounds_succ]
                  generalize u3.setCell ⟨w.heap.size + 2, 3, none⟩ (.int .u64 (x3 : Int)) = y3 at *
                  have cn := SR4.out.n3
                  have hl63 := HA4.out.few
                  unfold maxLen at hl63
                  have hc0 : ∀ j, y3.cell? ⟨w.heap.size, j, none⟩ = _ := fun j => cell_of_row y3 _ j _ _ (0, 0) SR4.out.r0
                  have hc1 : ∀ j, y3.cell? ⟨w.heap.size + 1, j, none⟩ = _ := fun j => cell_of_row y3 _ j _ _ (0, 0) SR4.out.r1
                  have hf0 : ∀ j, y3.frozen? ⟨w.heap.size, j, none⟩ = false := fun j => frozen_of_row y3 _ j _ _ SR4.out.r0
                  go_wp2
                  refine bodyPost_ret (v := .tuple #[.agg #[.int .i64 0, .int .i64 0, .int .i64 0, .string ⟨#[]⟩, .bool false, .int .i64 0, .int .i64 0], .slice none 0 0, .int .i64 2]) (by simp [results, Try.results54, go_sem, hc0]) rfl (sperr_mk e0.out ?_)
                  exact (((((((SR4.out.bel.setCell (Nat.le_refl _) _).setCell (Nat.le_refl _) _).setCell (Nat.le_refl _) _).setCell (Nat.le_refl _) _).setCell (Nat.le_refl _) _).setCell (Nat.le_refl _) _).setCell (Nat.le_refl _) _)
                · have HT5 : Hid (specU x0 x1 x2 (t3.take x3) (t3.drop x3) = R) := Lib.hid (by rw [← HT.out]; unfold specT; rw [bindR_at (chk_ok hx16), bindR_at (x := t3.take x3) (t := t3.drop x3) (by unfold takeR; rw [if_neg hsh])]; rfl)
                  clear h16
                  generalize htg : t3.take x3 = tg at *
                  cases ht5 : t3.drop x3 with
                  | nil =>
                    have e0 : Hid (R = .error 2) := Lib.hid (by rw [← HT5.out, ht5]; rfl)
                    go_enter Try.func54, Try.ntmps54
                    go_wp2
                    refine wp_loop_rounds 6 ?_
                    rw [rounds_succ]
                    go_wp2_with fail
                    rw [← hW]
                    refine (refGot_ok HA0.out G0.out).mono ?_
                    rintro e u0 ⟨⟨A0, c0, rfl, ht⟩, hb⟩
                    have SQ0 := Lib.hid (SR0.out.next hb)
                    have cn := SQ0.out.n0
                    have cf := SQ0.out.nf 0
                    have SR1 := Lib.hid (SQ0.out.set0 x0)
                    have HA1 := Lib.hid (ht.below ((Below.refl B u0).setCell (p := ⟨w.heap.size + 2, 0, none⟩) (by show B ≤ w.heap.size + 2; have := HBW.out; omega) (.int .u64 x0)))
                    clear hb ht
                    go_wp2
                    clear cn cf
                    rw [rounds_succ]
                    go_wp2_with fail
                    refine (refGot_ok HA1.out G1.out).mono ?_
                    rintro e u1 ⟨⟨A1, c1, rfl, ht⟩, hb⟩
                    have SQ1 := Lib.hid (SR1.out.next hb)
                    have cn := SQ1.out.n1
                    have cf := SQ1.out.nf 1
                    have SR2 := Lib.hid (SQ1.out.set1 x1)
                    have HA2 := Lib.hid (ht.below ((Below.refl B u1).setCell (p := ⟨w.heap.size + 2, 1, none⟩) (by show B ≤ w.heap.size + 2; have := HBW.out; omega) (.int .u64 x1)))
                    clear hb ht
                    go_wp2
                    clear cn cf
                    rw [rounds_succ]
                    go_wp2_with fail
                    refine (refGot_ok HA2.out G2.out).mono ?_
                    rintro e u2 ⟨⟨A2, c2, rfl, ht⟩, hb⟩
                    have SQ2 := Lib.hid (SR2.out.next hb)
                    have cn := SQ2.out.n2
                    have cf := SQ2.out.nf 2
                    have SR3 := Lib.hid (SQ2.out.set2 x2)
                    have HA3 := Lib.hid (ht.below ((Below.refl B u2).setCell (p := ⟨w.heap.size + 2, 2, none⟩) (by show B ≤ w.heap.size + 2; have := HBW.out; omega) (.int .u64 x2)))
                    clear hb ht
                    go_wp2
                    clear cn cf
                    rw [rounds_succ]
                    go_wp2_with fail
                    refine (refGot_ok HA3.out G3.out).mono ?_
                    rintro e u3 ⟨⟨A3, c3, rfl, ht⟩, hb⟩
                    have SQ3 := Lib.hid (SR3.out.next hb)
                    have cn := SQ3.out.n3
                    have cf := SQ3.out.nf 3
                    have SR4 := Lib.hid (SQ3.out.set3 x3)
                    have HA4 := Lib.hid (ht.below ((Below.refl B u3).setCell (p := ⟨w.heap.size + 2, 3, none⟩) (by show B ≤ w.heap.size + 2; have := HBW.out; omega) (.int .u64 x3)))
                    clear hb ht
                    go_wp2
                    clear cn cf
                    rw [rounds_succ]
                    generalize u3.setCell ⟨w.heap.size + 2, 3, none⟩ (.int .u64 (x3 : Int)) = y3 at *
                    have cn := SR4.out.n3
                    have hl63 := HA4.out.few
                    unfold maxLen at hl63
                    have dsh : decide (t3.length < x3) = false := by simp; omega
                    have dle : x3 ≤ t3.length := by omega
                    have hcap3 := HA4.out.cap
                    have HSTR := Lib.hid (string_of (c := c3) (show RB y3 B A3 x3 tg from by have := HA4.out.reads.front (k := x3) (by omega); rwa [htg] at this))
                    obtain ⟨A5, hA5, HA5⟩ : ∃ A5, (if c3 = x3 then A3 else A3.map (·.add x3)) = A5 ∧ Hid (BAsk y3 B A5 (t3.length - x3) (c3 - x3) []) := ⟨_, rfl, Lib.hid (by have := HA4.out.cut (k := x3) (by omega); rwa [ht5] at this)⟩
                    have HL5 := Lib.hid HA5.out.reads.len
                    obtain ⟨m5, hm5⟩ : ∃ m5, t3.length - x3 = m5 := ⟨_, rfl⟩
                    rw [hm5] at HA5 HL5
                    have hm50 : m5 = 0 := HL5.out.symm
                    subst hm50
                    have hstr := HSTR.out
                    have hc0 : ∀ j, y3.cell? ⟨w.heap.size, j, none⟩ = _ := fun j => cell_of_row y3 _ j _ _ (0, 0) SR4.out.r0
                    have hc1 : ∀ j, y3.cell? ⟨w.heap.size + 1, j, none⟩ = _ := fun j => cell_of_row y3 _ j _ _ (0, 0) SR4.out.r1
                    have hf0 : ∀ j, y3.frozen? ⟨w.heap.size, j, none⟩ = false := fun j => frozen_of_row y3 _ j _ _ SR4.out.r0
                    go_wp2
                    refine bodyPost_ret (v := .tuple #[.agg #[.int .i64 0, .int .i64 0, .int .i64 0, .string ⟨#[]⟩, .bool false, .int .i64 0, .int .i64 0], .slice none 0 0, .int .i64 2]) (by simp [results, Try.results54, go_sem, hc0]) rfl (sperr_mk e0.out ?_)
                    exact (((((((SR4.out.bel.setCell (Nat.le_refl _) _).setCell (Nat.le_refl _) _).setCell (Nat.le_refl _) _).setCell (Nat.le_refl _) _).setCell (Nat.le_refl _) _).setCell (Nat.le_refl _) _).setCell (Nat.le_refl _) _)
                  | cons o t6 =>
                    have HU : Hid (specU x0 x1 x2 tg (o :: t6) = R) := Lib.hid (by rw [← HT5.out, ht5])
                    obtain ⟨f, hf⟩ : ∃ f, o.toNat = f := ⟨_, rfl⟩
                    have HFL := Lib.hid hf
                    have hf256 : f < 256 := by rw [← hf]; exact c8_lt o
                    clear hf
                    by_cases hf1 : 1 < f
                    · have e0 : Hid (R = .error 3) := Lib.hid (by rw [← HU.out]; unfold specU; rw [bindR_at (x := o) (t := t6) rfl]; exact bindR_err (by unfold chkR; rw [if_neg (by rw [HFL.out]; omega)]))
                      have df : decide ((1 : Int) < (f : Int)) = true := by simp; omega
                      clear hf1
                      go_enter Try.func54, Try.ntmps54
                      go_wp2
                      refine wp_loop_rounds 6 ?_
                      rw [rounds_succ]
                      go_wp2_with fail
                      rw [← hW]
                      refine (refGot_ok HA0.out G0.out).mono ?_
                      rintro e u0 ⟨⟨A0, c0, rfl, ht⟩, hb⟩
                      have SQ0 := Lib.hid (SR0.out.next hb)
                      have cn := SQ0.out.n0
                      have cf := SQ0.out.nf 0
                      have SR1 := Lib.hid (SQ0.out.set0 x0)
                      have HA1 := Lib.hid (ht.below ((Below.refl B u0).setCell (p := ⟨w.heap.size + 2, 0, none⟩) (by show B ≤ w.heap.size + 2; have := HBW.out; omega) (.int .u64 x0)))
                      clear hb ht
                      go_wp2
                      clear cn cf
                      rw [rounds_succ]
                      go_wp2_with fail
                      refine (refGot_ok HA1.out G1.out).mono ?_
                      rintro e u1 ⟨⟨A1, c1, rfl, ht⟩, hb⟩
                      have SQ1 := Lib.hid (SR1.out.next hb)
                      have cn := SQ1.out.n1
                      have cf := SQ1.out.nf 1
                      have SR2 := Lib.hid (SQ1.out.set1 x1)
                      have HA2 := Lib.hid (ht.below ((Below.refl B u1).setCell (p := ⟨w.heap.size + 2, 1, none⟩) (by show B ≤ w.heap.size + 2; have := HBW.out; omega) (.int .u64 x1)))
                      clear hb ht
                      go_wp2
                      clear cn cf
                      rw [rounds_succ]
                      go_wp2_with fail
                      refine (refGot_ok HA2.out G2.out).mono ?_
                      rintro e u2 ⟨⟨A2, c2, rfl, ht⟩, hb⟩
                      have SQ2 := Lib.hid (SR2.out.next hb)
                      have cn := SQ2.out.n2
                      have cf := SQ2.out.nf 2
                      have SR3 := Lib.hid (SQ2.out.set2 x2)
                      have HA3 := Lib.hid (ht.below ((Below.refl B u2).setCell (p := ⟨w.heap.size + 2, 2, none⟩) (by show B ≤ w.heap.size + 2; have := HBW.out; omega) (.int .u64 x2)))
                      clear hb ht
                      go_wp2
                      clear cn cf
                      rw [rounds_succ]
                      go_wp2_with fail
                      refine (refGot_ok HA3.out G3.out).mono ?_
                      rintro e u3 ⟨⟨A3, c3, rfl, ht⟩, hb⟩
                      have SQ3 := Lib.hid (SR3.out.next hb)
                      have cn := SQ3.out.n3
                      have cf := SQ3.out.nf 3
                      have SR4 := Lib.hid (SQ3.out.set3 x3)
                      have HA4 := Lib.hid (ht.below ((Below.refl B u3).setCell (p := ⟨w.heap.size + 2, 3, none⟩) (by show B ≤ w.heap.size + 2; have := HBW.out; omega) (.int .u64 x3)))
                      clear hb ht
                      go_wp2
                      clear cn cf
                      rw [rounds_succ]
                      generalize u3.setCell ⟨w.heap.size + 2, 3, none⟩ (.int .u64 (x3 : Int)) = y3 at *
                      have cn := SR4.out.n3
                      have hl63 := HA4.out.few
                      unfold maxLen at hl63
                      have dsh : decide (t3.length < x3) = false := by simp; omega
                      have dle : x3 ≤ t3.length := by omega
                      have hcap3 := HA4.out.cap
                      have HSTR := Lib.hid (string_of (c := c3) (show RB y3 B A3 x3 tg from by have := HA4.out.reads.front (k := x3) (by omega); rwa [htg] at this))
                      obtain ⟨A5, hA5, HA5⟩ : ∃ A5, (if c3 = x3 then A3 else A3.map (·.add x3)) = A5 ∧ Hid (BAsk y3 B A5 (t3.length - x3) (c3 - x3) (o :: t6)) := ⟨_, rfl, Lib.hid (by have := HA4.out.cut (k := x3) (by omega); rwa [ht5] at this)⟩
                      have HL5 := Lib.hid HA5.out.reads.len
                      obtain ⟨m5, hm5⟩ : ∃ m5, t3.length - x3 = m5 := ⟨_, rfl⟩
                      rw [hm5] at HA5 HL5
                      have hm5p : 0 < m5 := by have := HL5.out; simp at this; omega
                      rw [if_neg (by omega)] at hA5
                      have hm5d : ((m5 : Int) == 0) = false := by simp; omega
                      obtain ⟨b5, o5, rfl, hb5, hc5⟩ := HA5.out.reads.one hm5p
                      simp only [Nat.add_zero] at hc5
                      rw [show (o :: t6).getD 0 0 = o from rfl, HFL.out] at hc5
                      have hstr := HSTR.out
                      have hc0 : ∀ j, y3.cell? ⟨w.heap.size, j, none⟩ = _ := fun j => cell_of_row y3 _ j _ _ (0, 0) SR4.out.r0
                      have hc1 : ∀ j, y3.cell? ⟨w.heap.size + 1, j, none⟩ = _ := fun j => cell_of_row y3 _ j _ _ (0, 0) SR4.out.r1
                      have hf0 : ∀ j, y3.frozen? ⟨w.heap.size, j, none⟩ = false := fun j => frozen_of_row y3 _ j _ _ SR4.out.r0
                      go_wp2
                      refine bodyPost_ret (v := .tuple #[.agg #[.int .i64 0, .int .i64 0, .int .i64 0, .string ⟨#[]⟩, .bool false, .int .i64 0, .int .i64 0], .slice none 0 0, .int .i64 3]) (by simp [results, Try.results54, go_sem, hc0]) rfl (sperr_mk e0.out ?_)
                      exact (((((((SR4.out.bel.setCell (Nat.le_refl _) _).setCell (Nat.le_refl _) _).setCell (Nat.le_refl _) _).setCell (Nat.le_refl _) _).setCell (Nat.le_refl _) _).setCell (Nat.le_refl _) _).setCell (Nat.le_refl _) _)
                    · have hfl : f = 0 ∨ f = 1 := by omega
                      have df : decide ((1 : Int) < (f : Int)) = false := by simp; omega
                      obtain ⟨fb, hfb⟩ : ∃ fb, ((f : Int) == 1) = fb := ⟨_, rfl⟩
                      have HFB : Hid ((o == 1) = fb) := Lib.hid (by
                        have h := HFL.out
                        rcases hfl with h1 | h1
                        · obtain rfl : o = 0 := by rw [← toNat_ofNat8 o, h, h1]; rfl
                          rw [← hfb, h1]; rfl
                        · obtain rfl : o = 1 := by rw [← toNat_ofNat8 o, h, h1]; rfl
                          rw [← hfb, h1]; rfl)
                      have HV : Hid ((bindR numR fun l => bindR numR fun p => bindR (chkR (rightS ⟨x0, x1, x2, ⟨tg.toArray⟩, o == 1, l, unsignN p⟩ = true)) fun _ => retR ⟨x0, x1, x2, ⟨tg.toArray⟩, o == 1, l, unsignN p⟩) t6 = R) := Lib.hid (by
                        rw [← HU.out]; unfold specU; rw [bindR_at (x := o) (t := t6) rfl, bindR_at (chk_ok (by rw [HFL.out]; omega))])
                      have HTG : Hid (tg.length ≤ 16) := Lib.hid (by rw [← htg, List.length_take]; omega)
                      clear hf1 hfl
                      cases gl : numR t6 with
                      | error er =>
                        have GL := Lib.hid gl
                        have her : Hid (er ≠ 0) := Lib.hid (nn_num _ _ gl)
                        have herd : ((er : Int) != 0) = true := by simp; exact her.out
                        have e0 : Hid (R = .error er) := Lib.hid (by rw [← HV.out, bindR_err gl])
                        clear gl
                        go_enter Try.func54, Try.ntmps54
                        go_wp2
                        refine wp_loop_rounds 6 ?_
                        rw [rounds_succ]
                        go_wp2_with fail
                        rw [← hW]
                        refine (refGot_ok HA0.out G0.out).mono ?_
                        rintro e u0 ⟨⟨A0, c0, rfl, ht⟩, hb⟩
                        have SQ0 := Lib.hid (SR0.out.next hb)
                        have cn := SQ0.out.n0
                        have cf := SQ0.out.nf 0
                        have SR1 := Lib.hid (SQ0.out.set0 x0)
                        have HA1 := Lib.hid (ht.below ((Below.refl B u0).setCell (p := ⟨w.heap.size + 2, 0, none⟩) (by show B ≤ w.heap.size + 2; have := HBW.out; omega) (.int .u64 x0)))
                        clear hb ht
                        go_wp2
                        clear cn cf
                        rw [rounds_succ]
                        go_wp2_with fail
                        refine (refGot_ok HA1.out G1.out).mono ?_
                        rintro e u1 ⟨⟨A1, c1, rfl, ht⟩, hb⟩
                        have SQ1 := Lib.hid (SR1.out.next hb)
                        have cn := SQ1.out.n1
                        have cf := SQ1.out.nf 1
                        have SR2 := Lib.hid (SQ1.out.set1 x1)
                        have HA2 := Lib.hid (ht.below ((Below.refl B u1).setCell (p := ⟨w.heap.size + 2, 1, none⟩) (by show B ≤ w.heap.size + 2; have := HBW.out; omega) (.int .u64 x1)))
                        clear hb ht
                        go_wp2
                        clear cn cf
                        rw [rounds_succ]
                        go_wp2_with fail
                        refine (refGot_ok HA2.out G2.out).mono ?_
                        rintro e u2 ⟨⟨A2, c2, rfl, ht⟩, hb⟩
                        have SQ2 := Lib.hid (SR2.out.next hb)
                        have cn := SQ2.out.n2
                        have cf := SQ2.out.nf 2
                        have SR3 := Lib.hid (SQ2.out.set2 x2)
                        have HA3 := Lib.hid (ht.below ((Below.refl B u2).setCell (p := ⟨w.heap.size + 2, 2, none⟩) (by show B ≤ w.heap.size + 2; have := HBW.out; omega) (.int .u64 x2)))
                        clear hb ht
                        go_wp2
                        clear cn cf
                        rw [rounds_succ]
                        go_wp2_with fail
                        refine (refGot_ok HA3.out G3.out).mono ?_
                        rintro e u3 ⟨⟨A3, c3, rfl, ht⟩, hb⟩
                        have SQ3 := Lib.hid (SR3.out.next hb)
                        have cn := SQ3.out.n3
                        have cf := SQ3.out.nf 3
                        have SR4 := Lib.hid (SQ3.out.set3 x3)
                        have HA4 := Lib.hid (ht.below ((Below.refl B u3).setCell (p := ⟨w.heap.size + 2, 3, none⟩) (by show B ≤ w.heap.size + 2; have := HBW.out; omega) (.int .u64 x3)))
                        clear hb ht
                        go_wp2
                        clear cn cf
                        rw [rounds_succ]
                        generalize u3.setCell ⟨w.heap.size + 2, 3, none⟩ (.int .u64 (x3 : Int)) = y3 at *
                        have cn := SR4.out.n3
                        have hl63 := HA4.out.few
                        unfold maxLen at hl63
                        have dsh : decide (t3.length < x3) = false := by simp; omega
                        have dle : x3 ≤ t3.length := by omega
                        have hcap3 := HA4.out.cap
                        have HSTR := Lib.hid (string_of (c := c3) (show RB y3 B A3 x3 tg from by have := HA4.out.reads.front (k := x3) (by omega); rwa [htg] at this))
                        obtain ⟨A5, hA5, HA5⟩ : ∃ A5, (if c3 = x3 then A3 else A3.map (·.add x3)) = A5 ∧ Hid (BAsk y3 B A5 (t3.length - x3) (c3 - x3) (o :: t6)) := ⟨_, rfl, Lib.hid (by have := HA4.out.cut (k := x3) (by omega); rwa [ht5] at this)⟩
                        have HL5 := Lib.hid HA5.out.reads.len
                        obtain ⟨m5, hm5⟩ : ∃ m5, t3.length - x3 = m5 := ⟨_, rfl⟩
                        rw [hm5] at HA5 HL5
                        have hm5p : 0 < m5 := by have := HL5.out; simp at this; omega
                        rw [if_neg (by omega)] at hA5
                        have hm5d : ((m5 : Int) == 0) = false := by simp; omega
                        obtain ⟨b5, o5, rfl, hb5, hc5⟩ := HA5.out.reads.one hm5p
                        simp only [Nat.add_zero] at hc5
                        rw [show (o :: t6).getD 0 0 = o from rfl, HFL.out] at hc5
                        have hstr := HSTR.out
                        obtain ⟨c5, hc5n⟩ : ∃ c5, c3 - x3 = c5 := ⟨_, rfl⟩
                        rw [hc5n] at HA5
                        obtain ⟨A6, hA6, ha6⟩ := HA5.out.cutN (k := 1) (by omega)
                        have HA6 := Lib.hid (show BAsk y3 B A6 (m5 - 1) (c5 - 1) t6 from ha6)
                        have hcap5 := HA5.out.cap
                        clear ha6
                        go_wp2_with fail
                        clear hstr
                        refine (refGot_err HA6.out GL.out).mono ?_
                        rintro e u4 ⟨rfl, hb⟩
                        have SE := Lib.hid (SR4.out.next hb)
                        clear hb
                        have hc0 : ∀ j, u4.cell? ⟨w.heap.size, j, none⟩ = _ := fun j => cell_of_row u4 _ j _ _ (0, 0) SE.out.r0
                        have hc1 : ∀ j, u4.cell? ⟨w.heap.size + 1, j, none⟩ = _ := fun j => cell_of_row u4 _ j _ _ (0, 0) SE.out.r1
                        have hf0 : ∀ j, u4.frozen? ⟨w.heap.size, j, none⟩ = false := fun j => frozen_of_row u4 _ j _ _ SE.out.r0
                        go_wp2
                        refine bodyPost_ret (v := .tuple #[.agg #[.int .i64 0, .int .i64 0, .int .i64 0, .string ⟨#[]⟩, .bool false, .int .i64 0, .int .i64 0], .slice none 0 0, .int .i64 (er : Int)]) (by simp [results, Try.results54, go_sem, hc0]) rfl (sperr_mk e0.out ?_)
                        exact (((((((SE.out.bel.setCell (Nat.le_refl _) _).setCell (Nat.le_refl _) _).setCell (Nat.le_refl _) _).setCell (Nat.le_refl _) _).setCell (Nat.le_refl _) _).setCell (Nat.le_refl _) _).setCell (Nat.le_refl _) _)
                      | ok rl =>
                        obtain ⟨l, t7⟩ := rl
                        have GL := Lib.hid gl
                        have hlb := (num_back gl).2
                        cases gp : numR t7 with
                        | error er =>
                          have GP := Lib.hid gp
                          have her : Hid (er ≠ 0) := Lib.hid (nn_num _ _ gp)
                          have herd : ((er : Int) != 0) = true := by simp; exact her.out
                          have e0 : Hid (R = .error er) := Lib.hid (by rw [← HV.out, bindR_at gl, bindR_err gp])
                          clear gl gp
                          go_enter Try.func54, Try.ntmps54
                          go_wp2
                          refine wp_loop_rounds 6 ?_
                          rw [rounds_succ]
                          go_wp2_with fail
                          rw [← hW]
                          refine (refGot_ok HA0.out G0.out).mono ?_
                          rintro e u0 ⟨⟨A0, c0, rfl, ht⟩, hb⟩
                          have SQ0 := Lib.hid (SR0.out.next hb)
                          have cn := SQ0.out.n0
                          have cf := SQ0.out.nf 0
                          have SR1 := Lib.hid (SQ0.out.set0 x0)
                          have HA1 := Lib.hid (ht.below ((Below.refl B u0).setCell (p := ⟨w.heap.size + 2, 0, none⟩) (by show B ≤ w.heap.size + 2; have := HBW.out; omega) (.int .u64 x0)))
                          clear hb ht
                          go_wp2
                          clear cn cf
                          rw [rounds_succ]
                          go_wp2_with fail
                          refine (refGot_ok HA1.out G1.out).mono ?_
                          rintro e u1 ⟨⟨A1, c1, rfl, ht⟩, hb⟩
                          have SQ1 := Lib.hid (SR1.out.next hb)
                          have cn := SQ1.out.n1
                          have cf := SQ1.out.nf 1
                          have SR2 := Lib.hid (SQ1.out.set1 x1)
                          have HA2 := Lib.hid (ht.below ((Below.refl B u1).setCell (p := ⟨w.heap.size + 2, 1, none⟩) (by show B ≤ w.heap.size + 2; have := HBW.out; omega) (.int .u64 x1)))
                          clear hb ht
                          go_wp2
                          clear cn cf
                          rw [rounds_succ]
                          go_wp2_with fail
                          refine (refGot_ok HA2.out G2.out).mono ?_
                          rintro e u2 ⟨⟨A2, c2, rfl, ht⟩, hb⟩
                          have SQ2 := Lib.hid (SR2.out.next hb)
                          have cn := SQ2.out.n2
                          have cf := SQ2.out.nf 2
                          have SR3 := Lib.hid (SQ2.out.set2 x2)
                          have HA3 := Lib.hid (ht.below ((Below.refl B u2).setCell (p := ⟨w.heap.size + 2, 2, none⟩) (by show B ≤ w.heap.size + 2; have := HBW.out; omega) (.int .u64 x2)))
                          clear hb ht
                          go_wp2
                          clear cn cf
                          rw [rounds_succ]
                          go_wp2_with fail
                          refine (refGot_ok HA3.out G3.out).mono ?_
                          rintro e u3 ⟨⟨A3, c3, rfl, ht⟩, hb⟩
                          have SQ3 := Lib.hid (SR3.out.next hb)
                          have cn := SQ3.out.n3
                          have cf := SQ3.out.nf 3
                          have SR4 := Lib.hid (SQ3.out.set3 x3)
                          have HA4 := Lib.hid (ht.below ((Below.refl B u3).setCell (p := ⟨w.heap.size + 2, 3, none⟩) (by show B ≤ w.heap.size + 2; have := HBW.out; omega) (.int .u64 x3)))
                          clear hb ht
                          go_wp2
                          clear cn cf
                          rw [rounds_succ]
                          generalize u3.setCell ⟨w.heap.size + 2, 3, none⟩ (.int .u64 (x3 : Int)) = y3 at *
                          have cn := SR4.out.n3
                          have hl63 := HA4.out.few
                          unfold maxLen at hl63
                          have dsh : decide (t3.length < x3) = false := by simp; omega
                          have dle : x3 ≤ t3.length := by omega
                          have hcap3 := HA4.out.cap
                          have HSTR := Lib.hid (string_of (c := c3) (show RB y3 B A3 x3 tg from by have := HA4.out.reads.front (k := x3) (by omega); rwa [htg] at this))
                          obtain ⟨A5, hA5, HA5⟩ : ∃ A5, (if c3 = x3 then A3 else A3.map (·.add x3)) = A5 ∧ Hid (BAsk y3 B A5 (t3.length - x3) (c3 - x3) (o :: t6)) := ⟨_, rfl, Lib.hid (by have := HA4.out.cut (k := x3) (by omega); rwa [ht5] at this)⟩
                          have HL5 := Lib.hid HA5.out.reads.len
                          obtain ⟨m5, hm5⟩ : ∃ m5, t3.length - x3 = m5 := ⟨_, rfl⟩
                          rw [hm5] at HA5 HL5
                          have hm5p : 0 < m5 := by have := HL5.out; simp at this; omega
                          rw [if_neg (by omega)] at hA5
                          have hm5d : ((m5 : Int) == 0) = false := by simp; omega
                          obtain ⟨b5, o5, rfl, hb5, hc5⟩ := HA5.out.reads.one hm5p
                          simp only [Nat.add_zero] at hc5
                          rw [show (o :: t6).getD 0 0 = o from rfl, HFL.out] at hc5
                          have hstr := HSTR.out
                          obtain ⟨c5, hc5n⟩ : ∃ c5, c3 - x3 = c5 := ⟨_, rfl⟩
                          rw [hc5n] at HA5
                          obtain ⟨A6, hA6, ha6⟩ := HA5.out.cutN (k := 1) (by omega)
                          have HA6 := Lib.hid (show BAsk y3 B A6 (m5 - 1) (c5 - 1) t6 from ha6)
                          have hcap5 := HA5.out.cap
                          clear ha6
                          go_wp2_with fail
                          clear hstr
                          refine (refGot_ok HA6.out GL.out).mono ?_
                          rintro e u4 ⟨⟨A7, c7, rfl, ht⟩, hb⟩
                          have SR5 := Lib.hid (SR4.out.next hb)
                          have HA7 := Lib.hid ht
                          clear hb ht
                          go_wp2_with fail
                          refine (refGot_err HA7.out GP.out).mono ?_
                          rintro e u5 ⟨rfl, hb⟩
                          have SE := Lib.hid (SR5.out.next hb)
                          clear hb
                          have hc0 : ∀ j, u5.cell? ⟨w.heap.size, j, none⟩ = _ := fun j => cell_of_row u5 _ j _ _ (0, 0) SE.out.r0
                          have hc1 : ∀ j, u5.cell? ⟨w.heap.size + 1, j, none⟩ = _ := fun j => cell_of_row u5 _ j _ _ (0, 0) SE.out.r1
                          have hf0 : ∀ j, u5.frozen? ⟨w.heap.size, j, none⟩ = false := fun j => frozen_of_row u5 _ j _ _ SE.out.r0
                          go_wp2
                          refine bodyPost_ret (v := .tuple #[.agg #[.int .i64 0, .int .i64 0, .int .i64 0, .string ⟨#[]⟩, .bool false, .int .i64 0, .int .i64 0], .slice none 0 0, .int .i64 (er : Int)]) (by simp [results, Try.results54, go_sem, hc0]) rfl (sperr_mk e0.out ?_)
                          exact (((((((SE.out.bel.setCell (Nat.le_refl _) _).setCell (Nat.le_refl _) _).setCell (Nat.le_refl _) _).setCell (Nat.le_refl _) _).setCell (Nat.le_refl _) _).setCell (Nat.le_refl _) _).setCell (Nat.le_refl _) _)
                        | ok rp =>
                          obtain ⟨p, t8⟩ := rp
                          have GP := Lib.hid gp
                          have hpb := (num_back gp).2
                          obtain ⟨pz, hpz⟩ : ∃ pz, unsignN p = pz := ⟨_, rfl⟩
                          have HW : Hid ((if rightS (⟨x0, x1, x2, ⟨tg.toArray⟩, fb, l, pz⟩ : Sp) = true then (.ok ((⟨x0, x1, x2, ⟨tg.toArray⟩, fb, l, pz⟩ : Sp), t8) : Except Nat (Sp × Bs)) else .error 3) = R) := Lib.hid (by
                            rw [← HV.out, bindR_at gl, bindR_at gp, HFB.out, hpz]
                            by_cases hr : rightS (⟨x0, x1, x2, ⟨tg.toArray⟩, fb, l, pz⟩ : Sp) = true
                            · rw [if_pos hr, bindR_at (chk_ok hr)]; rfl
                            · rw [if_neg hr]; exact (bindR_err (by unfold chkR; rw [if_neg hr])).symm)
                          obtain ⟨ph, hph⟩ : ∃ ph, p / 2 = ph := ⟨_, rfl⟩
                          have hphi : (p : Int) / 2 = (ph : Int) := by omega
                          have hphb : ph ≤ 2305843009213693952 := by omega
                          have hpar : ((p : Int) % 2 = 1 ∧ -1 - (ph : Int) = pz) ∨ ((p : Int) % 2 = 0 ∧ (ph : Int) = pz) := by
                            unfold unsignN at hpz
                            by_cases ho : p % 2 = 1
                            · rw [if_pos ho, hph] at hpz; exact .inl ⟨by omega, hpz⟩
                            · rw [if_neg ho, hph] at hpz; exact .inr ⟨by omega, hpz⟩
                          have SASK : Hid (SAsk (⟨x0, x1, x2, ⟨tg.toArray⟩, fb, l, pz⟩ : Sp)) := Lib.hid ⟨by show I64 (x0 : Int); unfold I64; omega, by show I64 (x1 : Int); unfold I64; omega, by show I64 (x2 : Int); unfold I64; omega, by show tg.toArray.size ≤ maxLen; have := HTG.out; unfold maxLen; simp; omega, by show I64 (l : Int); unfold I64; omega, by show I64 pz; unfold I64; omega⟩
                          clear gl gp hpz hph
                          cases hrs : rightS (⟨x0, x1, x2, ⟨tg.toArray⟩, fb, l, pz⟩ : Sp) with
                          | false =>
                            have e0 : Hid (R = .error 3) := Lib.hid (by rw [← HW.out, hrs]; rfl)
                            have RS := Lib.hid hrs
                            clear hrs
                            rcases hpar with ⟨hpm, hpz⟩ | ⟨hpm, hpz⟩
                            all_goals
                              go_enter Try.func54, Try.ntmps54
                              go_wp2
                              refine wp_loop_rounds 6 ?_
                              rw [rounds_succ]
                              go_wp2_with fail
                              rw [← hW]
                              refine (refGot_ok HA0.out G0.out).mono ?_
                              rintro e u0 ⟨⟨A0, c0, rfl, ht⟩, hb⟩
                              have SQ0 := Lib.hid (SR0.out.next hb)
                              have cn := SQ0.out.n0
                              have cf := SQ0.out.nf 0
                              have SR1 := Lib.hid (SQ0.out.set0 x0)
                              have HA1 := Lib.hid (ht.below ((Below.refl B u0).setCell (p := ⟨w.heap.size + 2, 0, none⟩) (by show B ≤ w.heap.size + 2; have := HBW.out; omega) (.int .u64 x0)))
                              clear hb ht
                              go_wp2
                              clear cn cf
                              rw [rounds_succ]
                              go_wp2_with fail
                              refine (refGot_ok HA1.out G1.out).mono ?_
                              rintro e u1 ⟨⟨A1, c1, rfl, ht⟩, hb⟩
                              have SQ1 := Lib.hid (SR1.out.next hb)
                              have cn := SQ1.out.n1
                              have cf := SQ1.out.nf 1
                              have SR2 := Lib.hid (SQ1.out.set1 x1)
                              have HA2 := Lib.hid (ht.below ((Below.refl B u1).setCell (p := ⟨w.heap.size + 2, 1, none⟩) (by show B ≤ w.heap.size + 2; have := HBW.out; omega) (.int .u64 x1)))
                              clear hb ht
                              go_wp2
                              clear cn cf
                              rw [rounds_succ]
                              go_wp2_with fail
                              refine (refGot_ok HA2.out G2.out).mono ?_
                              rintro e u2 ⟨⟨A2, c2, rfl, ht⟩, hb⟩
                              have SQ2 := Lib.hid (SR2.out.next hb)
                              have cn := SQ2.out.n2
                              have cf := SQ2.out.nf 2
                              have SR3 := Lib.hid (SQ2.out.set2 x2)
                              have HA3 := Lib.hid (ht.below ((Below.refl B u2).setCell (p := ⟨w.heap.size + 2, 2, none⟩) (by show B ≤ w.heap.size + 2; have := HBW.out; omega) (.int .u64 x2)))
                              clear hb ht
                              go_wp2
                              clear cn cf
                              rw [rounds_succ]
                              go_wp2_with fail
                              refine (refGot_ok HA3.out G3.out).mono ?_
                              rintro e u3 ⟨⟨A3, c3, rfl, ht⟩, hb⟩
                              have SQ3 := Lib.hid (SR3.out.next hb)
                              have cn := SQ3.out.n3
                              have cf := SQ3.out.nf 3
                              have SR4 := Lib.hid (SQ3.out.set3 x3)
                              have HA4 := Lib.hid (ht.below ((Below.refl B u3).setCell (p := ⟨w.heap.size + 2, 3, none⟩) (by show B ≤ w.heap.size + 2; have := HBW.out; omega) (.int .u64 x3)))
                              clear hb ht
                              go_wp2
                              clear cn cf
                              rw [rounds_succ]
                              generalize u3.setCell ⟨w.heap.size + 2, 3, none⟩ (.int .u64 (x3 : Int)) = y3 at *
                              have cn := SR4.out.n3
                              have hl63 := HA4.out.few
                              unfold maxLen at hl63
                              have dsh : decide (t3.length < x3) = false := by simp; omega
                              have dle : x3 ≤ t3.length := by omega
                              have hcap3 := HA4.out.cap
                              have HSTR := Lib.hid (string_of (c := c3) (show RB y3 B A3 x3 tg from by have := HA4.out.reads.front (k := x3) (by omega); rwa [htg] at this))
                              obtain ⟨A5, hA5, HA5⟩ : ∃ A5, (if c3 = x3 then A3 else A3.map (·.add x3)) = A5 ∧ Hid (BAsk y3 B A5 (t3.length - x3) (c3 - x3) (o :: t6)) := ⟨_, rfl, Lib.hid (by have := HA4.out.cut (k := x3) (by omega); rwa [ht5] at this)⟩
                              have HL5 := Lib.hid HA5.out.reads.len
                              obtain ⟨m5, hm5⟩ : ∃ m5, t3.length - x3 = m5 := ⟨_, rfl⟩
                              rw [hm5] at HA5 HL5
                              have hm5p : 0 < m5 := by have := HL5.out; simp at this; omega
                              rw [if_neg (by omega)] at hA5
                              have hm5d : ((m5 : Int) == 0) = false := by simp; omega
                              obtain ⟨b5, o5, rfl, hb5, hc5⟩ := HA5.out.reads.one hm5p
                              simp only [Nat.add_zero] at hc5
                              rw [show (o :: t6).getD 0 0 = o from rfl, HFL.out] at hc5
                              have hstr := HSTR.out
                              obtain ⟨c5, hc5n⟩ : ∃ c5, c3 - x3 = c5 := ⟨_, rfl⟩
                              rw [hc5n] at HA5
                              obtain ⟨A6, hA6, ha6⟩ := HA5.out.cutN (k := 1) (by omega)
                              have HA6 := Lib.hid (show BAsk y3 B A6 (m5 - 1) (c5 - 1) t6 from ha6)
                              have hcap5 := HA5.out.cap
                              clear ha6
                              go_wp2_with fail
                              clear hstr
                              refine (refGot_ok HA6.out GL.out).mono ?_
                              rintro e u4 ⟨⟨A7, c7, rfl, ht⟩, hb⟩
                              have SR5 := Lib.hid (SR4.out.next hb)
                              have HA7 := Lib.hid ht
                              clear hb ht
                              go_wp2_with fail
                              refine (refGot_ok HA7.out GP.out).mono ?_
                              rintro e u5 ⟨⟨A8, c8, rfl, ht⟩, hb⟩
                              have SR6 := Lib.hid (SR5.out.next hb)
                              have HA8 := Lib.hid ht
                              clear hb ht
                              have k0 := SR6.out.n0
                              have k1 := SR6.out.n1
                              have k2 := SR6.out.n2
                              have SR7 : Hid (SRow w (u5.alloc (.cells #[.int .i64 x0, .int .i64 x1, .int .i64 x2, .string ⟨tg.toArray⟩, .bool fb, .int .i64 l, .int .i64 pz] 23)) x0 x1 x2 x3) := Lib.hid (SR6.out.next ((Below.refl _ _).alloc (Nat.le_refl _) _))
                              have BX7 : Hid (BoxS (u5.alloc (.cells #[.int .i64 x0, .int .i64 x1, .int .i64 x2, .string ⟨tg.toArray⟩, .bool fb, .int .i64 l, .int .i64 pz] 23)) u5.heap.size (⟨x0, x1, x2, ⟨tg.toArray⟩, fb, l, pz⟩ : Sp)) := Lib.hid (box_new u5 (⟨x0, x1, x2, ⟨tg.toArray⟩, fb, l, pz⟩ : Sp))
                              have HA9 : Hid (BAsk (u5.alloc (.cells #[.int .i64 x0, .int .i64 x1, .int .i64 x2, .string ⟨tg.toArray⟩, .bool fb, .int .i64 l, .int .i64 pz] 23)) B A8 t8.length c8 t8) := Lib.hid (HA8.out.below ((Below.refl B u5).alloc (by have := HBW.out; have := SR6.out.bel.size; omega) _))
                              go_wp2_with fail
                              clear k0 k1 k2
                              refine (refRightS_b SASK.out RS.out).mono ?_
                              rintro e u6 ⟨rfl, hb⟩
                              have SE := Lib.hid (SR7.out.next hb)
                              have BXE := Lib.hid (BX7.out.next hb)
                              have HAE := Lib.hid (HA9.out.below (hb.mono (by have := HBW.out; have := SR7.out.bel.size; omega)))
                              clear hb
                              have hc0 : ∀ j, u6.cell? ⟨w.heap.size, j, none⟩ = _ := fun j => cell_of_row u6 _ j _ _ (0, 0) SE.out.r0
                              have hc1 : ∀ j, u6.cell? ⟨w.heap.size + 1, j, none⟩ = _ := fun j => cell_of_row u6 _ j _ _ (0, 0) SE.out.r1
                              have hf0 : ∀ j, u6.frozen? ⟨w.heap.size, j, none⟩ = false := fun j => frozen_of_row u6 _ j _ _ SE.out.r0
                              go_wp2
                              refine bodyPost_ret (v := .tuple #[.agg #[.int .i64 0, .int .i64 0, .int .i64 0, .string ⟨#[]⟩, .bool false, .int .i64 0, .int .i64 0], .slice none 0 0, .int .i64 3]) (by simp [results, Try.results54, go_sem, hc0]) rfl (sperr_mk e0.out ?_)
                              exact (((((((SE.out.bel.setCell (Nat.le_refl _) _).setCell (Nat.le_refl _) _).setCell (Nat.le_refl _) _).setCell (Nat.le_refl _) _).setCell (Nat.le_refl _) _).setCell (Nat.le_refl _) _).setCell (Nat.le_refl _) _)
                          | true =>
                            have e0 : Hid (R = .ok ((⟨x0, x1, x2, ⟨tg.toArray⟩, fb, l, pz⟩ : Sp), t8)) := Lib.hid (by rw [← HW.out, hrs]; rfl)
                            have RS := Lib.hid hrs
                            clear hrs
                            rcases hpar with ⟨hpm, hpz⟩ | ⟨hpm, hpz⟩
                            all_goals
                              go_enter Try.func54, Try.ntmps54
                              go_wp2
                              refine wp_loop_rounds 6 ?_
                              rw [rounds_succ]
                              go_wp2_with fail
                              rw [← hW]
                              refine (refGot_ok HA0.out G0.out).mono ?_
                              rintro e u0 ⟨⟨A0, c0, rfl, ht⟩, hb⟩
                              have SQ0 := Lib.hid (SR0.out.next hb)
                              have cn := SQ0.out.n0
                              have cf := SQ0.out.nf 0
                              have SR1 := Lib.hid (SQ0.out.set0 x0)
                              have HA1 := Lib.hid (ht.below ((Below.refl B u0).setCell (p := ⟨w.heap.size + 2, 0, none⟩) (by show B ≤ w.heap.size + 2; have := HBW.out; omega) (.int .u64 x0)))
                              clear hb ht
                              go_wp2
                              clear cn cf
                              rw [rounds_succ]
                              go_wp2_with fail
                              refine (refGot_ok HA1.out G1.out).mono ?_
                              rintro e u1 ⟨⟨A1, c1, rfl, ht⟩, hb⟩
                              have SQ1 := Lib.hid (SR1.out.next hb)
                              have cn := SQ1.out.n1
                              have cf := SQ1.out.nf 1
                              have SR2 := Lib.hid (SQ1.out.set1 x1)
                              have HA2 := Lib.hid (ht.below ((Below.refl B u1).setCell (p := ⟨w.heap.size + 2, 1, none⟩) (by show B ≤ w.heap.size + 2; have := HBW.out; omega) (.int .u64 x1)))
                              clear hb ht
                              go_wp2
                              clear cn cf
                              rw [rounds_succ]
                              go_wp2_with fail
                              refine (refGot_ok HA2.out G2.out).mono ?_
                              rintro e u2 ⟨⟨A2, c2, rfl, ht⟩, hb⟩
                              have SQ2 := Lib.hid (SR2.out.next hb)
                              have cn := SQ2.out.n2
                              have cf := SQ2.out.nf 2
                              have SR3 := Lib.hid (SQ2.out.set2 x2)
                              have HA3 := Lib.hid (ht.below ((Below.refl B u2).setCell (p := ⟨w.heap.size + 2, 2, none⟩) (by show B ≤ w.heap.size + 2; have := HBW.out; omega) (.int .u64 x2)))
                              clear hb ht
                              go_wp2
                              clear cn cf
                              rw [rounds_succ]
                              go_wp2_with fail
                              refine (refGot_ok HA3.out G3.out).mono ?_
                              rintro e u3 ⟨⟨A3, c3, rfl, ht⟩, hb⟩
                              have SQ3 := Lib.hid (SR3.out.next hb)
                              have cn := SQ3.out.n3
                              have cf := SQ3.out.nf 3
                              have SR4 := Lib.hid (SQ3.out.set3 x3)
                              have HA4 := Lib.hid (ht.below ((Below.refl B u3).setCell (p := ⟨w.heap.size + 2, 3, none⟩) (by show B ≤ w.heap.size + 2; have := HBW.out; omega) (.int .u64 x3)))
                              clear hb ht
                              go_wp2
                              clear cn cf
                              rw [rounds_succ]
                              generalize u3.setCell ⟨w.heap.size + 2, 3, none⟩ (.int .u64 (x3 : Int)) = y3 at *
                              have cn := SR4.out.n3
                              have hl63 := HA4.out.few
                              unfold maxLen at hl63
                              have dsh : decide (t3.length < x3) = false := by simp; omega
                              have dle : x3 ≤ t3.length := by omega
                              have hcap3 := HA4.out.cap
                              have HSTR := Lib.hid (string_of (c := c3) (show RB y3 B A3 x3 tg from by have := HA4.out.reads.front (k := x3) (by omega); rwa [htg] at this))
                              obtain ⟨A5, hA5, HA5⟩ : ∃ A5, (if c3 = x3 then A3 else A3.map (·.add x3)) = A5 ∧ Hid (BAsk y3 B A5 (t3.length - x3) (c3 - x3) (o :: t6)) := ⟨_, rfl, Lib.hid (by have := HA4.out.cut (k := x3) (by omega); rwa [ht5] at this)⟩
                              have HL5 := Lib.hid HA5.out.reads.len
                              obtain ⟨m5, hm5⟩ : ∃ m5, t3.length - x3 = m5 := ⟨_, rfl⟩
                              rw [hm5] at HA5 HL5
                              have hm5p : 0 < m5 := by have := HL5.out; simp at this; omega
                              rw [if_neg (by omega)] at hA5
                              have hm5d : ((m5 : Int) == 0) = false := by simp; omega
                              obtain ⟨b5, o5, rfl, hb5, hc5⟩ := HA5.out.reads.one hm5p
                              simp only [Nat.add_zero] at hc5
                              rw [show (o :: t6).getD 0 0 = o from rfl, HFL.out] at hc5
                              have hstr := HSTR.out
                              obtain ⟨c5, hc5n⟩ : ∃ c5, c3 - x3 = c5 := ⟨_, rfl⟩
                              rw [hc5n] at HA5
                              obtain ⟨A6, hA6, ha6⟩ := HA5.out.cutN (k := 1) (by omega)
                              have HA6 := Lib.hid (show BAsk y3 B A6 (m5 - 1) (c5 - 1) t6 from ha6)
                              have hcap5 := HA5.out.cap
                              clear ha6
                              go_wp2_with fail
                              clear hstr
                              refine (refGot_ok HA6.out GL.out).mono ?_
                              rintro e u4 ⟨⟨A7, c7, rfl, ht⟩, hb⟩
                              have SR5 := Lib.hid (SR4.out.next hb)
                              have HA7 := Lib.hid ht
                              clear hb ht
                              go_wp2_with fail
                              refine (refGot_ok HA7.out GP.out).mono ?_
                              rintro e u5 ⟨⟨A8, c8, rfl, ht⟩, hb⟩
                              have SR6 := Lib.hid (SR5.out.next hb)
                              have HA8 := Lib.hid ht
                              clear hb ht
                              have k0 := SR6.out.n0
                              have k1 := SR6.out.n1
                              have k2 := SR6.out.n2
                              have SR7 : Hid (SRow w (u5.alloc (.cells #[.int .i64 x0, .int .i64 x1, .int .i64 x2, .string ⟨tg.toArray⟩, .bool fb, .int .i64 l, .int .i64 pz] 23)) x0 x1 x2 x3) := Lib.hid (SR6.out.next ((Below.refl _ _).alloc (Nat.le_refl _) _))
                              have BX7 : Hid (BoxS (u5.alloc (.cells #[.int .i64 x0, .int .i64 x1, .int .i64 x2, .string ⟨tg.toArray⟩, .bool fb, .int .i64 l, .int .i64 pz] 23)) u5.heap.size (⟨x0, x1, x2, ⟨tg.toArray⟩, fb, l, pz⟩ : Sp)) := Lib.hid (box_new u5 (⟨x0, x1, x2, ⟨tg.toArray⟩, fb, l, pz⟩ : Sp))
                              have HA9 : Hid (BAsk (u5.alloc (.cells #[.int .i64 x0, .int .i64 x1, .int .i64 x2, .string ⟨tg.toArray⟩, .bool fb, .int .i64 l, .int .i64 pz] 23)) B A8 t8.length c8 t8) := Lib.hid (HA8.out.below ((Below.refl B u5).alloc (by have := HBW.out; have := SR6.out.bel.size; omega) _))
                              go_wp2_with fail
                              clear k0 k1 k2
                              refine (refRightS_b SASK.out RS.out).mono ?_
                              rintro e u6 ⟨rfl, hb⟩
                              have SE := Lib.hid (SR7.out.next hb)
                              have BXE := Lib.hid (BX7.out.next hb)
                              have HAE := Lib.hid (HA9.out.below (hb.mono (by have := HBW.out; have := SR7.out.bel.size; omega)))
                              clear hb
                              have hc0 : ∀ j, u6.cell? ⟨w.heap.size, j, none⟩ = _ := fun j => cell_of_row u6 _ j _ _ (0, 0) SE.out.r0
                              have hf0 : ∀ j, u6.frozen? ⟨w.heap.size, j, none⟩ = false := fun j => frozen_of_row u6 _ j _ _ SE.out.r0
                              have s0 := BXE.out.c0
                              have s1 := BXE.out.c1
                              have s2 := BXE.out.c2
                              have s3 := BXE.out.c3
                              have s4 := BXE.out.c4
                              have s5 := BXE.out.c5
                              have s6 := BXE.out.c6
                              dsimp only at s0 s1 s2 s3 s4 s5 s6
                              go_wp2
                              refine bodyPost_ret (v := .tuple #[.agg #[.int .i64 x0, .int .i64 x1, .int .i64 x2, .string ⟨tg.toArray⟩, .bool fb, .int .i64 l, .int .i64 pz], .slice A8 t8.length c8, .int .i64 0]) (by simp [results, Try.results54, go_sem, hc0]) rfl ?_
                              rw [e0.out]
                              refine ⟨⟨A8, c8, rfl, ?_⟩, ?_⟩
                              · refine HAE.out.below ?_
                                exact ((((((((Below.refl B u6).setCell HBW.out _).setCell HBW.out _).setCell HBW.out _).setCell HBW.out _).setCell HBW.out _).setCell HBW.out _).setCell HBW.out _)
                              · exact (((((((SE.out.bel.setCell (Nat.le_refl _) _).setCell (Nat.le_refl _) _).setCell (Nat.le_refl _) _).setCell (Nat.le_refl _) _).setCell (Nat.le_refl _) _).setCell (Nat.le_refl _) _).setCell (Nat.le_refl _) _)
    · have e0 : Hid (R = .error 3) := Lib.hid (by rw [← HR.out, specR_other (fun h => hy2 (by rw [← HY.out, h]; rfl))])
      have hyd : ((y : Int) != 1) = true := by simp; omega
      have hbw : b < w.heap.size := by have := HBW.out; omega
      clear hy2
      go_enter Try.func54, Try.ntmps54
      go_wp2
      refine bodyPost_ret (v := .tuple #[.agg #[.int .i64 0, .int .i64 0, .int .i64 0, .string ⟨#[]⟩, .bool false, .int .i64 0, .int .i64 0], .slice none 0 0, .int .i64 3]) (by simp [results, Try.results54, go_sem]) rfl (sperr_mk e0.out ?_)
      exact ((Below.refl _ _).alloc (Nat.le_refl _) _).alloc (by simp) _

end Go.Proofs.Ytlpogkcfjbabaaa
