/- The statement SpecEnds, as a walk over the contracts: of any spec and two numbers the call returns true. -/
import Derived.Test.YtggfacginheapaaSpecAwake
import Derived.Deep.RegionHeld3
import Derived.IntWalk
namespace Go.Proofs.Ytggfacginheapaa
open Go.RowKit

theorem ends_near {s : Sp} {x : Int} (h : rightS s = true) (h0 : 0 ≤ x) (h1 : x ≤ 4294967295) : endsS s x = x + s.long := by
  have := (rightS_is h).2.2.2.2.2.1
  unfold endsS
  rw [if_pos h, plus_near h0 h1 (by omega) (by omega)]
theorem ends_never {s : Sp} (h : rightS s = true) : endsS s 4611686018427387904 = 4611686018427387904 := by
  have := (rightS_is h).2.2.2.2.2.1
  unfold endsS
  rw [if_pos h, plus_never (by omega)]
theorem ends_wrong {s : Sp} {x : Int} (h : rightS s = false) (h0 : 0 ≤ x) (h1 : x ≤ 4294967295) : endsS s x = x := by
  unfold endsS
  rw [if_neg (by rw [h]; simp), plus_near h0 h1 (by omega) (by omega)]
  omega
theorem ends_rise {s : Sp} {x y : Int} (h : x ≤ y) : endsS s x ≤ endsS s y := plus_rise h
theorem ends_i64 (s : Sp) (x : Int) : I64 (endsS s x) := by unfold endsS plusZ nearZ I64; repeat' split; all_goals omega

set_option maxRecDepth 100000 in
set_option maxHeartbeats 8000000 in
theorem specEnds_lt (H : SpecOk) (s : Sp) (a b : Int) (w : World) (hs : SAsk s) (hab : a < b) (ha : 0 ≤ a) (hb : b ≤ 4294967295) (hG : Glob w) :
    Calls Try.prog 6 #[.agg #[.int .i64 s.nodes, .int .i64 s.cores, .int .i64 s.gpus, .string s.tag, .bool s.whole, .int .i64 s.long, .int .i64 s.prio], .int .u32 a, .int .u32 b] w fun e w' => e = .returned (.bool true) ∧ Below w.heap.size w w' := by
  have HS := Lib.hid hs
  have IX : Hid (I64 a) := Lib.hid (i64_of (by omega) (by omega))
  have IY : Hid (I64 b) := Lib.hid (i64_of (by omega) (by omega))
  have IN : Hid (I64 4611686018427387904) := Lib.hid (by unfold I64; omega)
  have hx0 : 0 ≤ a := ha
  have hy1 : b ≤ 4294967295 := hb
  have hxy : a ≤ b := by omega
  clear hs ha hb
  obtain ⟨W, hW⟩ : ∃ W, W = (w).alloc (spO s) := ⟨_, rfl⟩
  have Bs0 : Hid (BoxS W (w.heap.size) s) := Lib.hid (by rw [hW]; have h := (box_new (w) s); simpa using h)
  have HB0 : Hid (Below w.heap.size w W) := Lib.hid (by rw [hW]; exact ((Below.refl _ _).alloc (by simp <;> omega) _))
  have HG0 := Lib.hid (hG.next HB0.out)
  unfold spO at hW
  obtain ⟨r1, h1⟩ : ∃ r, endsS s a = r := ⟨_, rfl⟩
  obtain ⟨r2, h2⟩ : ∃ r, endsS s b = r := ⟨_, rfl⟩
  have h12 : decide (r2 < r1) = false := by rw [← h1, ← h2]; have := ends_rise (s := s) hxy; rw [decide_eq_false_iff_not]; omega
  have E1 := Lib.hid h1
  have E2 := Lib.hid h2
  clear h1 h2
  cases hr : rightS s with
  | false =>
    have q1 : Hid (r1 = a) := Lib.hid (by rw [← E1.out, ends_wrong hr hx0 (by omega)])
    have HR := Lib.hid hr
    clear hr
    go_enter Try.func6, Try.ntmps6
    go_wp2_with fail
    rw [← hW]
    refine (awake7_any H _ HG0.out).mono ?_
    rintro e w1 ⟨rfl, hb⟩
    have HB1 := Lib.hid (HB0.out.trans (hb.mono HB0.out.size))
    have HG1 := Lib.hid (HG0.out.next hb)
    have Bs1 := Lib.hid (Bs0.out.next hb)
    clear hb
    have s0 := Bs1.out.c0
    have s1 := Bs1.out.c1
    have s2 := Bs1.out.c2
    have s3 := Bs1.out.c3
    have s4 := Bs1.out.c4
    have s5 := Bs1.out.c5
    have s6 := Bs1.out.c6
    go_wp2
    have HGD1 : Hid (Glob w1.drew) := Lib.hid (HG1.out.next (bel_drew w1 1))
    have HKEEP : Hid (∀ wx, Below w1.drew.heap.size w1.drew wx → wx.cell? ⟨w.heap.size, 0, none⟩ = some (.int .i64 s.nodes) ∧ wx.cell? ⟨w.heap.size, 1, none⟩ = some (.int .i64 s.cores) ∧ wx.cell? ⟨w.heap.size, 2, none⟩ = some (.int .i64 s.gpus) ∧ wx.cell? ⟨w.heap.size, 3, none⟩ = some (.string s.tag) ∧ wx.cell? ⟨w.heap.size, 4, none⟩ = some (.bool s.whole) ∧ wx.cell? ⟨w.heap.size, 5, none⟩ = some (.int .i64 s.long) ∧ wx.cell? ⟨w.heap.size, 6, none⟩ = some (.int .i64 s.prio)) := Lib.hid (fun wx hb => ⟨(((Bs1.out).next (bel_drew w1 1)).next hb).c0, (((Bs1.out).next (bel_drew w1 1)).next hb).c1, (((Bs1.out).next (bel_drew w1 1)).next hb).c2, (((Bs1.out).next (bel_drew w1 1)).next hb).c3, (((Bs1.out).next (bel_drew w1 1)).next hb).c4, (((Bs1.out).next (bel_drew w1 1)).next hb).c5, (((Bs1.out).next (bel_drew w1 1)).next hb).c6⟩)
    go_region_held3 (fun w' => w'.cell? ⟨w.heap.size, 0, none⟩ = some (.int .i64 s.nodes) ∧ w'.cell? ⟨w.heap.size, 1, none⟩ = some (.int .i64 s.cores) ∧ w'.cell? ⟨w.heap.size, 2, none⟩ = some (.int .i64 s.gpus) ∧ w'.cell? ⟨w.heap.size, 3, none⟩ = some (.string s.tag) ∧ w'.cell? ⟨w.heap.size, 4, none⟩ = some (.bool s.whole) ∧ w'.cell? ⟨w.heap.size, 5, none⟩ = some (.int .i64 s.long) ∧ w'.cell? ⟨w.heap.size, 6, none⟩ = some (.int .i64 s.prio))
      (first | exact HKEEP.out _ (Below.refl _ _) | go_keep | exact HKEEP.out _ HY2.out | exact HKEEP.out _ HY3.out | fail)
      (first | (go_at_call 12; (with_reducible refine (s7_ends (w := w1.drew) H HS.out HGD1.out IX.out E1.out).mono ?_); rintro e w2 ⟨rfl, hb⟩; have HY2 := Lib.hid hb; have HG2 := Lib.hid (Glob.next HGD1.out hb); clear hb) | (go_at_call 12; (with_reducible refine (s7_ends (w := w2) H HS.out HG2.out IY.out E2.out).mono ?_); rintro e w3 ⟨rfl, hb⟩; have HY3 := Lib.hid (HY2.out.trans (hb.mono HY2.out.size)); have HG3 := Lib.hid (Glob.next HG2.out hb); clear hb) | fail)
    have HX3 := Lib.hid (bel_und HY3.out)
    have HB3 := Lib.hid (HB1.out.trans (HX3.out.mono HB1.out.size))
    have Bs3 := Lib.hid (Bs1.out.next HX3.out)
    clear s0 s1 s2 s3 s4 s5 s6
    clear HKEEP
    have s0 := Bs3.out.c0
    have s1 := Bs3.out.c1
    have s2 := Bs3.out.c2
    have s3 := Bs3.out.c3
    have s4 := Bs3.out.c4
    have s5 := Bs3.out.c5
    have s6 := Bs3.out.c6
    go_wp2_with fail
    refine (s7_right H HS.out HG3.out HR.out).mono ?_
    rintro e w4 ⟨rfl, hb⟩
    have HB4 := Lib.hid (HB3.out.trans (hb.mono HB3.out.size))
    have HG4 := Lib.hid (HG3.out.next hb)
    have Bs4 := Lib.hid (Bs3.out.next hb)
    clear hb
    clear s0 s1 s2 s3 s4 s5 s6
    have s0 := Bs4.out.c0
    have s1 := Bs4.out.c1
    have s2 := Bs4.out.c2
    have s3 := Bs4.out.c3
    have s4 := Bs4.out.c4
    have s5 := Bs4.out.c5
    have s6 := Bs4.out.c6
    obtain rfl := q1.out
    go_wp2_with fail
    refine (s7_ends H HS.out HG4.out IX.out E1.out).mono ?_
    rintro e w5 ⟨rfl, hb⟩
    have HB5 := Lib.hid (HB4.out.trans (hb.mono HB4.out.size))
    clear hb
    go_wp2
    go_ret
    exact ⟨rfl, HB5.out⟩
  | true =>
    have q1 : r1 = a + s.long := by rw [← E1.out, ends_near hr hx0 (by omega)]
    have q2 : r2 = b + s.long := by rw [← E2.out, ends_near hr (by omega) hy1]
    have EN := Lib.hid (ends_never hr)
    have hl := (rightS_is hr).2.2.2.2.2.1
    have v1 : IntKind.i64.wrap (r1 - a) = s.long := by rw [IntWalk.i64_in _ (by omega)]; omega
    have v2 : IntKind.i64.wrap (r2 - r1) = b - a := by rw [IntWalk.i64_in _ (by omega)]; omega
    have v3 : IntKind.i64.wrap (b - a) = b - a := IntWalk.i64_in _ (by omega)
    have V := Lib.hid (And.intro v1 (And.intro v2 v3))
    have HR := Lib.hid hr
    clear hr q1 q2 v1 v2 v3 hl
    go_enter Try.func6, Try.ntmps6
    go_wp2_with fail
    rw [← hW]
    refine (awake7_any H _ HG0.out).mono ?_
    rintro e w1 ⟨rfl, hb⟩
    have HB1 := Lib.hid (HB0.out.trans (hb.mono HB0.out.size))
    have HG1 := Lib.hid (HG0.out.next hb)
    have Bs1 := Lib.hid (Bs0.out.next hb)
    clear hb
    have s0 := Bs1.out.c0
    have s1 := Bs1.out.c1
    have s2 := Bs1.out.c2
    have s3 := Bs1.out.c3
    have s4 := Bs1.out.c4
    have s5 := Bs1.out.c5
    have s6 := Bs1.out.c6
    go_wp2
    have HGD1 : Hid (Glob w1.drew) := Lib.hid (HG1.out.next (bel_drew w1 1))
    have HKEEP : Hid (∀ wx, Below w1.drew.heap.size w1.drew wx → wx.cell? ⟨w.heap.size, 0, none⟩ = some (.int .i64 s.nodes) ∧ wx.cell? ⟨w.heap.size, 1, none⟩ = some (.int .i64 s.cores) ∧ wx.cell? ⟨w.heap.size, 2, none⟩ = some (.int .i64 s.gpus) ∧ wx.cell? ⟨w.heap.size, 3, none⟩ = some (.string s.tag) ∧ wx.cell? ⟨w.heap.size, 4, none⟩ = some (.bool s.whole) ∧ wx.cell? ⟨w.heap.size, 5, none⟩ = some (.int .i64 s.long) ∧ wx.cell? ⟨w.heap.size, 6, none⟩ = some (.int .i64 s.prio)) := Lib.hid (fun wx hb => ⟨(((Bs1.out).next (bel_drew w1 1)).next hb).c0, (((Bs1.out).next (bel_drew w1 1)).next hb).c1, (((Bs1.out).next (bel_drew w1 1)).next hb).c2, (((Bs1.out).next (bel_drew w1 1)).next hb).c3, (((Bs1.out).next (bel_drew w1 1)).next hb).c4, (((Bs1.out).next (bel_drew w1 1)).next hb).c5, (((Bs1.out).next (bel_drew w1 1)).next hb).c6⟩)
    go_region_held3 (fun w' => w'.cell? ⟨w.heap.size, 0, none⟩ = some (.int .i64 s.nodes) ∧ w'.cell? ⟨w.heap.size, 1, none⟩ = some (.int .i64 s.cores) ∧ w'.cell? ⟨w.heap.size, 2, none⟩ = some (.int .i64 s.gpus) ∧ w'.cell? ⟨w.heap.size, 3, none⟩ = some (.string s.tag) ∧ w'.cell? ⟨w.heap.size, 4, none⟩ = some (.bool s.whole) ∧ w'.cell? ⟨w.heap.size, 5, none⟩ = some (.int .i64 s.long) ∧ w'.cell? ⟨w.heap.size, 6, none⟩ = some (.int .i64 s.prio))
      (first | exact HKEEP.out _ (Below.refl _ _) | go_keep | exact HKEEP.out _ HY2.out | exact HKEEP.out _ HY3.out | fail)
      (first | (go_at_call 12; (with_reducible refine (s7_ends (w := w1.drew) H HS.out HGD1.out IX.out E1.out).mono ?_); rintro e w2 ⟨rfl, hb⟩; have HY2 := Lib.hid hb; have HG2 := Lib.hid (Glob.next HGD1.out hb); clear hb) | (go_at_call 12; (with_reducible refine (s7_ends (w := w2) H HS.out HG2.out IY.out E2.out).mono ?_); rintro e w3 ⟨rfl, hb⟩; have HY3 := Lib.hid (HY2.out.trans (hb.mono HY2.out.size)); have HG3 := Lib.hid (Glob.next HG2.out hb); clear hb) | fail)
    have HX3 := Lib.hid (bel_und HY3.out)
    have HB3 := Lib.hid (HB1.out.trans (HX3.out.mono HB1.out.size))
    have Bs3 := Lib.hid (Bs1.out.next HX3.out)
    clear s0 s1 s2 s3 s4 s5 s6
    clear HKEEP
    have s0 := Bs3.out.c0
    have s1 := Bs3.out.c1
    have s2 := Bs3.out.c2
    have s3 := Bs3.out.c3
    have s4 := Bs3.out.c4
    have s5 := Bs3.out.c5
    have s6 := Bs3.out.c6
    go_wp2_with fail
    refine (s7_right H HS.out HG3.out HR.out).mono ?_
    rintro e w4 ⟨rfl, hb⟩
    have HB4 := Lib.hid (HB3.out.trans (hb.mono HB3.out.size))
    have HG4 := Lib.hid (HG3.out.next hb)
    have Bs4 := Lib.hid (Bs3.out.next hb)
    clear hb
    clear s0 s1 s2 s3 s4 s5 s6
    have s0 := Bs4.out.c0
    have s1 := Bs4.out.c1
    have s2 := Bs4.out.c2
    have s3 := Bs4.out.c3
    have s4 := Bs4.out.c4
    have s5 := Bs4.out.c5
    have s6 := Bs4.out.c6
    obtain ⟨v1, v2, v3⟩ := V.out
    go_wp2
    have HGD4 : Hid (Glob w4.drew) := Lib.hid (HG4.out.next (bel_drew w4 1))
    have HKEEP : Hid (∀ wx, Below w4.drew.heap.size w4.drew wx → wx.cell? ⟨w.heap.size, 0, none⟩ = some (.int .i64 s.nodes) ∧ wx.cell? ⟨w.heap.size, 1, none⟩ = some (.int .i64 s.cores) ∧ wx.cell? ⟨w.heap.size, 2, none⟩ = some (.int .i64 s.gpus) ∧ wx.cell? ⟨w.heap.size, 3, none⟩ = some (.string s.tag) ∧ wx.cell? ⟨w.heap.size, 4, none⟩ = some (.bool s.whole) ∧ wx.cell? ⟨w.heap.size, 5, none⟩ = some (.int .i64 s.long) ∧ wx.cell? ⟨w.heap.size, 6, none⟩ = some (.int .i64 s.prio)) := Lib.hid (fun wx hb => ⟨(((Bs4.out).next (bel_drew w4 1)).next hb).c0, (((Bs4.out).next (bel_drew w4 1)).next hb).c1, (((Bs4.out).next (bel_drew w4 1)).next hb).c2, (((Bs4.out).next (bel_drew w4 1)).next hb).c3, (((Bs4.out).next (bel_drew w4 1)).next hb).c4, (((Bs4.out).next (bel_drew w4 1)).next hb).c5, (((Bs4.out).next (bel_drew w4 1)).next hb).c6⟩)
    go_region_held3 (fun w' => w'.cell? ⟨w.heap.size, 0, none⟩ = some (.int .i64 s.nodes) ∧ w'.cell? ⟨w.heap.size, 1, none⟩ = some (.int .i64 s.cores) ∧ w'.cell? ⟨w.heap.size, 2, none⟩ = some (.int .i64 s.gpus) ∧ w'.cell? ⟨w.heap.size, 3, none⟩ = some (.string s.tag) ∧ w'.cell? ⟨w.heap.size, 4, none⟩ = some (.bool s.whole) ∧ w'.cell? ⟨w.heap.size, 5, none⟩ = some (.int .i64 s.long) ∧ w'.cell? ⟨w.heap.size, 6, none⟩ = some (.int .i64 s.prio))
      (first | exact HKEEP.out _ (Below.refl _ _) | go_keep | exact HKEEP.out _ HY5.out | exact HKEEP.out _ HY6.out | exact HKEEP.out _ HY7.out | exact HKEEP.out _ HY8.out | fail)
      (first | (go_at_call 12; (with_reducible refine (s7_ends (w := w4.drew) H HS.out HGD4.out IX.out E1.out).mono ?_); rintro e w5 ⟨rfl, hb⟩; have HY5 := Lib.hid hb; have HG5 := Lib.hid (Glob.next HGD4.out hb); clear hb) | (go_at_call 12; (with_reducible refine (s7_ends (w := w5) H HS.out HG5.out IY.out E2.out).mono ?_); rintro e w6 ⟨rfl, hb⟩; have HY6 := Lib.hid (HY5.out.trans (hb.mono HY5.out.size)); have HG6 := Lib.hid (Glob.next HG5.out hb); clear hb) | (go_at_call 12; (with_reducible refine (s7_ends (w := w6) H HS.out HG6.out IX.out E1.out).mono ?_); rintro e w7 ⟨rfl, hb⟩; have HY7 := Lib.hid (HY6.out.trans (hb.mono HY6.out.size)); have HG7 := Lib.hid (Glob.next HG6.out hb); clear hb) | (go_at_call 12; (with_reducible refine (s7_ends (w := w7) H HS.out HG7.out IN.out EN.out).mono ?_); rintro e w8 ⟨rfl, hb⟩; have HY8 := Lib.hid (HY7.out.trans (hb.mono HY7.out.size)); have HG8 := Lib.hid (Glob.next HG7.out hb); clear hb) | fail)
    have HX8 := Lib.hid (bel_und HY8.out)
    have HB8 := Lib.hid (HB4.out.trans (HX8.out.mono HB4.out.size))
    have Bs8 := Lib.hid (Bs4.out.next HX8.out)
    clear v1 v2 v3
    go_wp2
    go_ret
    exact ⟨rfl, HB8.out⟩

set_option maxRecDepth 100000 in
set_option maxHeartbeats 8000000 in
theorem specEnds_gt (H : SpecOk) (s : Sp) (a b : Int) (w : World) (hs : SAsk s) (hab : b < a) (ha : 0 ≤ b) (hb : a ≤ 4294967295) (hG : Glob w) :
    Calls Try.prog 6 #[.agg #[.int .i64 s.nodes, .int .i64 s.cores, .int .i64 s.gpus, .string s.tag, .bool s.whole, .int .i64 s.long, .int .i64 s.prio], .int .u32 a, .int .u32 b] w fun e w' => e = .returned (.bool true) ∧ Below w.heap.size w w' := by
  have HS := Lib.hid hs
  have IX : Hid (I64 b) := Lib.hid (i64_of (by omega) (by omega))
  have IY : Hid (I64 a) := Lib.hid (i64_of (by omega) (by omega))
  have IN : Hid (I64 4611686018427387904) := Lib.hid (by unfold I64; omega)
  have hx0 : 0 ≤ b := ha
  have hy1 : a ≤ 4294967295 := hb
  have hxy : b ≤ a := by omega
  clear hs ha hb
  obtain ⟨W, hW⟩ : ∃ W, W = (w).alloc (spO s) := ⟨_, rfl⟩
  have Bs0 : Hid (BoxS W (w.heap.size) s) := Lib.hid (by rw [hW]; have h := (box_new (w) s); simpa using h)
  have HB0 : Hid (Below w.heap.size w W) := Lib.hid (by rw [hW]; exact ((Below.refl _ _).alloc (by simp <;> omega) _))
  have HG0 := Lib.hid (hG.next HB0.out)
  unfold spO at hW
  obtain ⟨r1, h1⟩ : ∃ r, endsS s b = r := ⟨_, rfl⟩
  obtain ⟨r2, h2⟩ : ∃ r, endsS s a = r := ⟨_, rfl⟩
  have h12 : decide (r2 < r1) = false := by rw [← h1, ← h2]; have := ends_rise (s := s) hxy; rw [decide_eq_false_iff_not]; omega
  have E1 := Lib.hid h1
  have E2 := Lib.hid h2
  clear h1 h2
  cases hr : rightS s with
  | false =>
    have q1 : Hid (r1 = b) := Lib.hid (by rw [← E1.out, ends_wrong hr hx0 (by omega)])
    have HR := Lib.hid hr
    clear hr
    go_enter Try.func6, Try.ntmps6
    go_wp2_with fail
    rw [← hW]
    refine (awake7_any H _ HG0.out).mono ?_
    rintro e w1 ⟨rfl, hb⟩
    have HB1 := Lib.hid (HB0.out.trans (hb.mono HB0.out.size))
    have HG1 := Lib.hid (HG0.out.next hb)
    have Bs1 := Lib.hid (Bs0.out.next hb)
    clear hb
    have s0 := Bs1.out.c0
    have s1 := Bs1.out.c1
    have s2 := Bs1.out.c2
    have s3 := Bs1.out.c3
    have s4 := Bs1.out.c4
    have s5 := Bs1.out.c5
    have s6 := Bs1.out.c6
    go_wp2
    have HGD1 : Hid (Glob w1.drew) := Lib.hid (HG1.out.next (bel_drew w1 1))
    have HKEEP : Hid (∀ wx, Below w1.drew.heap.size w1.drew wx → wx.cell? ⟨w.heap.size, 0, none⟩ = some (.int .i64 s.nodes) ∧ wx.cell? ⟨w.heap.size, 1, none⟩ = some (.int .i64 s.cores) ∧ wx.cell? ⟨w.heap.size, 2, none⟩ = some (.int .i64 s.gpus) ∧ wx.cell? ⟨w.heap.size, 3, none⟩ = some (.string s.tag) ∧ wx.cell? ⟨w.heap.size, 4, none⟩ = some (.bool s.whole) ∧ wx.cell? ⟨w.heap.size, 5, none⟩ = some (.int .i64 s.long) ∧ wx.cell? ⟨w.heap.size, 6, none⟩ = some (.int .i64 s.prio)) := Lib.hid (fun wx hb => ⟨(((Bs1.out).next (bel_drew w1 1)).next hb).c0, (((Bs1.out).next (bel_drew w1 1)).next hb).c1, (((Bs1.out).next (bel_drew w1 1)).next hb).c2, (((Bs1.out).next (bel_drew w1 1)).next hb).c3, (((Bs1.out).next (bel_drew w1 1)).next hb).c4, (((Bs1.out).next (bel_drew w1 1)).next hb).c5, (((Bs1.out).next (bel_drew w1 1)).next hb).c6⟩)
    go_region_held3 (fun w' => w'.cell? ⟨w.heap.size, 0, none⟩ = some (.int .i64 s.nodes) ∧ w'.cell? ⟨w.heap.size, 1, none⟩ = some (.int .i64 s.cores) ∧ w'.cell? ⟨w.heap.size, 2, none⟩ = some (.int .i64 s.gpus) ∧ w'.cell? ⟨w.heap.size, 3, none⟩ = some (.string s.tag) ∧ w'.cell? ⟨w.heap.size, 4, none⟩ = some (.bool s.whole) ∧ w'.cell? ⟨w.heap.size, 5, none⟩ = some (.int .i64 s.long) ∧ w'.cell? ⟨w.heap.size, 6, none⟩ = some (.int .i64 s.prio))
      (first | exact HKEEP.out _ (Below.refl _ _) | go_keep | exact HKEEP.out _ HY2.out | exact HKEEP.out _ HY3.out | fail)
      (first | (go_at_call 12; (with_reducible refine (s7_ends (w := w1.drew) H HS.out HGD1.out IX.out E1.out).mono ?_); rintro e w2 ⟨rfl, hb⟩; have HY2 := Lib.hid hb; have HG2 := Lib.hid (Glob.next HGD1.out hb); clear hb) | (go_at_call 12; (with_reducible refine (s7_ends (w := w2) H HS.out HG2.out IY.out E2.out).mono ?_); rintro e w3 ⟨rfl, hb⟩; have HY3 := Lib.hid (HY2.out.trans (hb.mono HY2.out.size)); have HG3 := Lib.hid (Glob.next HG2.out hb); clear hb) | fail)
    have HX3 := Lib.hid (bel_und HY3.out)
    have HB3 := Lib.hid (HB1.out.trans (HX3.out.mono HB1.out.size))
    have Bs3 := Lib.hid (Bs1.out.next HX3.out)
    clear s0 s1 s2 s3 s4 s5 s6
    clear HKEEP
    have s0 := Bs3.out.c0
    have s1 := Bs3.out.c1
    have s2 := Bs3.out.c2
    have s3 := Bs3.out.c3
    have s4 := Bs3.out.c4
    have s5 := Bs3.out.c5
    have s6 := Bs3.out.c6
    go_wp2_with fail
    refine (s7_right H HS.out HG3.out HR.out).mono ?_
    rintro e w4 ⟨rfl, hb⟩
    have HB4 := Lib.hid (HB3.out.trans (hb.mono HB3.out.size))
    have HG4 := Lib.hid (HG3.out.next hb)
    have Bs4 := Lib.hid (Bs3.out.next hb)
    clear hb
    clear s0 s1 s2 s3 s4 s5 s6
    have s0 := Bs4.out.c0
    have s1 := Bs4.out.c1
    have s2 := Bs4.out.c2
    have s3 := Bs4.out.c3
    have s4 := Bs4.out.c4
    have s5 := Bs4.out.c5
    have s6 := Bs4.out.c6
    obtain rfl := q1.out
    go_wp2_with fail
    refine (s7_ends H HS.out HG4.out IX.out E1.out).mono ?_
    rintro e w5 ⟨rfl, hb⟩
    have HB5 := Lib.hid (HB4.out.trans (hb.mono HB4.out.size))
    clear hb
    go_wp2
    go_ret
    exact ⟨rfl, HB5.out⟩
  | true =>
    have q1 : r1 = b + s.long := by rw [← E1.out, ends_near hr hx0 (by omega)]
    have q2 : r2 = a + s.long := by rw [← E2.out, ends_near hr (by omega) hy1]
    have EN := Lib.hid (ends_never hr)
    have hl := (rightS_is hr).2.2.2.2.2.1
    have v1 : IntKind.i64.wrap (r1 - b) = s.long := by rw [IntWalk.i64_in _ (by omega)]; omega
    have v2 : IntKind.i64.wrap (r2 - r1) = a - b := by rw [IntWalk.i64_in _ (by omega)]; omega
    have v3 : IntKind.i64.wrap (a - b) = a - b := IntWalk.i64_in _ (by omega)
    have V := Lib.hid (And.intro v1 (And.intro v2 v3))
    have HR := Lib.hid hr
    clear hr q1 q2 v1 v2 v3 hl
    go_enter Try.func6, Try.ntmps6
    go_wp2_with fail
    rw [← hW]
    refine (awake7_any H _ HG0.out).mono ?_
    rintro e w1 ⟨rfl, hb⟩
    have HB1 := Lib.hid (HB0.out.trans (hb.mono HB0.out.size))
    have HG1 := Lib.hid (HG0.out.next hb)
    have Bs1 := Lib.hid (Bs0.out.next hb)
    clear hb
    have s0 := Bs1.out.c0
    have s1 := Bs1.out.c1
    have s2 := Bs1.out.c2
    have s3 := Bs1.out.c3
    have s4 := Bs1.out.c4
    have s5 := Bs1.out.c5
    have s6 := Bs1.out.c6
    go_wp2
    have HGD1 : Hid (Glob w1.drew) := Lib.hid (HG1.out.next (bel_drew w1 1))
    have HKEEP : Hid (∀ wx, Below w1.drew.heap.size w1.drew wx → wx.cell? ⟨w.heap.size, 0, none⟩ = some (.int .i64 s.nodes) ∧ wx.cell? ⟨w.heap.size, 1, none⟩ = some (.int .i64 s.cores) ∧ wx.cell? ⟨w.heap.size, 2, none⟩ = some (.int .i64 s.gpus) ∧ wx.cell? ⟨w.heap.size, 3, none⟩ = some (.string s.tag) ∧ wx.cell? ⟨w.heap.size, 4, none⟩ = some (.bool s.whole) ∧ wx.cell? ⟨w.heap.size, 5, none⟩ = some (.int .i64 s.long) ∧ wx.cell? ⟨w.heap.size, 6, none⟩ = some (.int .i64 s.prio)) := Lib.hid (fun wx hb => ⟨(((Bs1.out).next (bel_drew w1 1)).next hb).c0, (((Bs1.out).next (bel_drew w1 1)).next hb).c1, (((Bs1.out).next (bel_drew w1 1)).next hb).c2, (((Bs1.out).next (bel_drew w1 1)).next hb).c3, (((Bs1.out).next (bel_drew w1 1)).next hb).c4, (((Bs1.out).next (bel_drew w1 1)).next hb).c5, (((Bs1.out).next (bel_drew w1 1)).next hb).c6⟩)
    go_region_held3 (fun w' => w'.cell? ⟨w.heap.size, 0, none⟩ = some (.int .i64 s.nodes) ∧ w'.cell? ⟨w.heap.size, 1, none⟩ = some (.int .i64 s.cores) ∧ w'.cell? ⟨w.heap.size, 2, none⟩ = some (.int .i64 s.gpus) ∧ w'.cell? ⟨w.heap.size, 3, none⟩ = some (.string s.tag) ∧ w'.cell? ⟨w.heap.size, 4, none⟩ = some (.bool s.whole) ∧ w'.cell? ⟨w.heap.size, 5, none⟩ = some (.int .i64 s.long) ∧ w'.cell? ⟨w.heap.size, 6, none⟩ = some (.int .i64 s.prio))
      (first | exact HKEEP.out _ (Below.refl _ _) | go_keep | exact HKEEP.out _ HY2.out | exact HKEEP.out _ HY3.out | fail)
      (first | (go_at_call 12; (with_reducible refine (s7_ends (w := w1.drew) H HS.out HGD1.out IX.out E1.out).mono ?_); rintro e w2 ⟨rfl, hb⟩; have HY2 := Lib.hid hb; have HG2 := Lib.hid (Glob.next HGD1.out hb); clear hb) | (go_at_call 12; (with_reducible refine (s7_ends (w := w2) H HS.out HG2.out IY.out E2.out).mono ?_); rintro e w3 ⟨rfl, hb⟩; have HY3 := Lib.hid (HY2.out.trans (hb.mono HY2.out.size)); have HG3 := Lib.hid (Glob.next HG2.out hb); clear hb) | fail)
    have HX3 := Lib.hid (bel_und HY3.out)
    have HB3 := Lib.hid (HB1.out.trans (HX3.out.mono HB1.out.size))
    have Bs3 := Lib.hid (Bs1.out.next HX3.out)
    clear s0 s1 s2 s3 s4 s5 s6
    clear HKEEP
    have s0 := Bs3.out.c0
    have s1 := Bs3.out.c1
    have s2 := Bs3.out.c2
    have s3 := Bs3.out.c3
    have s4 := Bs3.out.c4
    have s5 := Bs3.out.c5
    have s6 := Bs3.out.c6
    go_wp2_with fail
    refine (s7_right H HS.out HG3.out HR.out).mono ?_
    rintro e w4 ⟨rfl, hb⟩
    have HB4 := Lib.hid (HB3.out.trans (hb.mono HB3.out.size))
    have HG4 := Lib.hid (HG3.out.next hb)
    have Bs4 := Lib.hid (Bs3.out.next hb)
    clear hb
    clear s0 s1 s2 s3 s4 s5 s6
    have s0 := Bs4.out.c0
    have s1 := Bs4.out.c1
    have s2 := Bs4.out.c2
    have s3 := Bs4.out.c3
    have s4 := Bs4.out.c4
    have s5 := Bs4.out.c5
    have s6 := Bs4.out.c6
    obtain ⟨v1, v2, v3⟩ := V.out
    go_wp2
    have HGD4 : Hid (Glob w4.drew) := Lib.hid (HG4.out.next (bel_drew w4 1))
    have HKEEP : Hid (∀ wx, Below w4.drew.heap.size w4.drew wx → wx.cell? ⟨w.heap.size, 0, none⟩ = some (.int .i64 s.nodes) ∧ wx.cell? ⟨w.heap.size, 1, none⟩ = some (.int .i64 s.cores) ∧ wx.cell? ⟨w.heap.size, 2, none⟩ = some (.int .i64 s.gpus) ∧ wx.cell? ⟨w.heap.size, 3, none⟩ = some (.string s.tag) ∧ wx.cell? ⟨w.heap.size, 4, none⟩ = some (.bool s.whole) ∧ wx.cell? ⟨w.heap.size, 5, none⟩ = some (.int .i64 s.long) ∧ wx.cell? ⟨w.heap.size, 6, none⟩ = some (.int .i64 s.prio)) := Lib.hid (fun wx hb => ⟨(((Bs4.out).next (bel_drew w4 1)).next hb).c0, (((Bs4.out).next (bel_drew w4 1)).next hb).c1, (((Bs4.out).next (bel_drew w4 1)).next hb).c2, (((Bs4.out).next (bel_drew w4 1)).next hb).c3, (((Bs4.out).next (bel_drew w4 1)).next hb).c4, (((Bs4.out).next (bel_drew w4 1)).next hb).c5, (((Bs4.out).next (bel_drew w4 1)).next hb).c6⟩)
    go_region_held3 (fun w' => w'.cell? ⟨w.heap.size, 0, none⟩ = some (.int .i64 s.nodes) ∧ w'.cell? ⟨w.heap.size, 1, none⟩ = some (.int .i64 s.cores) ∧ w'.cell? ⟨w.heap.size, 2, none⟩ = some (.int .i64 s.gpus) ∧ w'.cell? ⟨w.heap.size, 3, none⟩ = some (.string s.tag) ∧ w'.cell? ⟨w.heap.size, 4, none⟩ = some (.bool s.whole) ∧ w'.cell? ⟨w.heap.size, 5, none⟩ = some (.int .i64 s.long) ∧ w'.cell? ⟨w.heap.size, 6, none⟩ = some (.int .i64 s.prio))
      (first | exact HKEEP.out _ (Below.refl _ _) | go_keep | exact HKEEP.out _ HY5.out | exact HKEEP.out _ HY6.out | exact HKEEP.out _ HY7.out | exact HKEEP.out _ HY8.out | fail)
      (first | (go_at_call 12; (with_reducible refine (s7_ends (w := w4.drew) H HS.out HGD4.out IX.out E1.out).mono ?_); rintro e w5 ⟨rfl, hb⟩; have HY5 := Lib.hid hb; have HG5 := Lib.hid (Glob.next HGD4.out hb); clear hb) | (go_at_call 12; (with_reducible refine (s7_ends (w := w5) H HS.out HG5.out IY.out E2.out).mono ?_); rintro e w6 ⟨rfl, hb⟩; have HY6 := Lib.hid (HY5.out.trans (hb.mono HY5.out.size)); have HG6 := Lib.hid (Glob.next HG5.out hb); clear hb) | (go_at_call 12; (with_reducible refine (s7_ends (w := w6) H HS.out HG6.out IX.out E1.out).mono ?_); rintro e w7 ⟨rfl, hb⟩; have HY7 := Lib.hid (HY6.out.trans (hb.mono HY6.out.size)); have HG7 := Lib.hid (Glob.next HG6.out hb); clear hb) | (go_at_call 12; (with_reducible refine (s7_ends (w := w7) H HS.out HG7.out IN.out EN.out).mono ?_); rintro e w8 ⟨rfl, hb⟩; have HY8 := Lib.hid (HY7.out.trans (hb.mono HY7.out.size)); have HG8 := Lib.hid (Glob.next HG7.out hb); clear hb) | fail)
    have HX8 := Lib.hid (bel_und HY8.out)
    have HB8 := Lib.hid (HB4.out.trans (HX8.out.mono HB4.out.size))
    have Bs8 := Lib.hid (Bs4.out.next HX8.out)
    clear v1 v2 v3
    go_wp2
    go_ret
    exact ⟨rfl, HB8.out⟩

set_option maxRecDepth 100000 in
set_option maxHeartbeats 8000000 in
theorem specEnds_eq (H : SpecOk) (s : Sp) (a : Int) (w : World) (hs : SAsk s) (ha : 0 ≤ a) (hb : a ≤ 4294967295) (hG : Glob w) :
    Calls Try.prog 6 #[.agg #[.int .i64 s.nodes, .int .i64 s.cores, .int .i64 s.gpus, .string s.tag, .bool s.whole, .int .i64 s.long, .int .i64 s.prio], .int .u32 a, .int .u32 a] w fun e w' => e = .returned (.bool true) ∧ Below w.heap.size w w' := by
  have HS := Lib.hid hs
  have IX : Hid (I64 a) := Lib.hid (i64_of (by omega) (by omega))
  have IY : Hid (I64 a) := Lib.hid (i64_of (by omega) (by omega))
  have IN : Hid (I64 4611686018427387904) := Lib.hid (by unfold I64; omega)
  have hx0 : 0 ≤ a := ha
  have hy1 : a ≤ 4294967295 := hb
  have hxy : a ≤ a := by omega
  clear hs ha hb
  obtain ⟨W, hW⟩ : ∃ W, W = (w).alloc (spO s) := ⟨_, rfl⟩
  have Bs0 : Hid (BoxS W (w.heap.size) s) := Lib.hid (by rw [hW]; have h := (box_new (w) s); simpa using h)
  have HB0 : Hid (Below w.heap.size w W) := Lib.hid (by rw [hW]; exact ((Below.refl _ _).alloc (by simp <;> omega) _))
  have HG0 := Lib.hid (hG.next HB0.out)
  unfold spO at hW
  obtain ⟨r1, h1⟩ : ∃ r, endsS s a = r := ⟨_, rfl⟩
  obtain ⟨r2, h2⟩ : ∃ r, endsS s a = r := ⟨_, rfl⟩
  have h12 : decide (r2 < r1) = false := by rw [← h1, ← h2]; have := ends_rise (s := s) hxy; rw [decide_eq_false_iff_not]; omega
  have E1 := Lib.hid h1
  have E2 := Lib.hid h2
  clear h1 h2
  cases hr : rightS s with
  | false =>
    have q1 : Hid (r1 = a) := Lib.hid (by rw [← E1.out, ends_wrong hr hx0 (by omega)])
    have HR := Lib.hid hr
    clear hr
    go_enter Try.func6, Try.ntmps6
    go_wp2_with fail
    rw [← hW]
    refine (awake7_any H _ HG0.out).mono ?_
    rintro e w1 ⟨rfl, hb⟩
    have HB1 := Lib.hid (HB0.out.trans (hb.mono HB0.out.size))
    have HG1 := Lib.hid (HG0.out.next hb)
    have Bs1 := Lib.hid (Bs0.out.next hb)
    clear hb
    have s0 := Bs1.out.c0
    have s1 := Bs1.out.c1
    have s2 := Bs1.out.c2
    have s3 := Bs1.out.c3
    have s4 := Bs1.out.c4
    have s5 := Bs1.out.c5
    have s6 := Bs1.out.c6
    go_wp2
    have HGD1 : Hid (Glob w1.drew) := Lib.hid (HG1.out.next (bel_drew w1 1))
    have HKEEP : Hid (∀ wx, Below w1.drew.heap.size w1.drew wx → wx.cell? ⟨w.heap.size, 0, none⟩ = some (.int .i64 s.nodes) ∧ wx.cell? ⟨w.heap.size, 1, none⟩ = some (.int .i64 s.cores) ∧ wx.cell? ⟨w.heap.size, 2, none⟩ = some (.int .i64 s.gpus) ∧ wx.cell? ⟨w.heap.size, 3, none⟩ = some (.string s.tag) ∧ wx.cell? ⟨w.heap.size, 4, none⟩ = some (.bool s.whole) ∧ wx.cell? ⟨w.heap.size, 5, none⟩ = some (.int .i64 s.long) ∧ wx.cell? ⟨w.heap.size, 6, none⟩ = some (.int .i64 s.prio)) := Lib.hid (fun wx hb => ⟨(((Bs1.out).next (bel_drew w1 1)).next hb).c0, (((Bs1.out).next (bel_drew w1 1)).next hb).c1, (((Bs1.out).next (bel_drew w1 1)).next hb).c2, (((Bs1.out).next (bel_drew w1 1)).next hb).c3, (((Bs1.out).next (bel_drew w1 1)).next hb).c4, (((Bs1.out).next (bel_drew w1 1)).next hb).c5, (((Bs1.out).next (bel_drew w1 1)).next hb).c6⟩)
    go_region_held3 (fun w' => w'.cell? ⟨w.heap.size, 0, none⟩ = some (.int .i64 s.nodes) ∧ w'.cell? ⟨w.heap.size, 1, none⟩ = some (.int .i64 s.cores) ∧ w'.cell? ⟨w.heap.size, 2, none⟩ = some (.int .i64 s.gpus) ∧ w'.cell? ⟨w.heap.size, 3, none⟩ = some (.string s.tag) ∧ w'.cell? ⟨w.heap.size, 4, none⟩ = some (.bool s.whole) ∧ w'.cell? ⟨w.heap.size, 5, none⟩ = some (.int .i64 s.long) ∧ w'.cell? ⟨w.heap.size, 6, none⟩ = some (.int .i64 s.prio))
      (first | exact HKEEP.out _ (Below.refl _ _) | go_keep | exact HKEEP.out _ HY2.out | exact HKEEP.out _ HY3.out | fail)
      (first | (go_at_call 12; (with_reducible refine (s7_ends (w := w1.drew) H HS.out HGD1.out IX.out E1.out).mono ?_); rintro e w2 ⟨rfl, hb⟩; have HY2 := Lib.hid hb; have HG2 := Lib.hid (Glob.next HGD1.out hb); clear hb) | (go_at_call 12; (with_reducible refine (s7_ends (w := w2) H HS.out HG2.out IY.out E2.out).mono ?_); rintro e w3 ⟨rfl, hb⟩; have HY3 := Lib.hid (HY2.out.trans (hb.mono HY2.out.size)); have HG3 := Lib.hid (Glob.next HG2.out hb); clear hb) | fail)
    have HX3 := Lib.hid (bel_und HY3.out)
    have HB3 := Lib.hid (HB1.out.trans (HX3.out.mono HB1.out.size))
    have Bs3 := Lib.hid (Bs1.out.next HX3.out)
    clear s0 s1 s2 s3 s4 s5 s6
    clear HKEEP
    have s0 := Bs3.out.c0
    have s1 := Bs3.out.c1
    have s2 := Bs3.out.c2
    have s3 := Bs3.out.c3
    have s4 := Bs3.out.c4
    have s5 := Bs3.out.c5
    have s6 := Bs3.out.c6
    go_wp2_with fail
    refine (s7_right H HS.out HG3.out HR.out).mono ?_
    rintro e w4 ⟨rfl, hb⟩
    have HB4 := Lib.hid (HB3.out.trans (hb.mono HB3.out.size))
    have HG4 := Lib.hid (HG3.out.next hb)
    have Bs4 := Lib.hid (Bs3.out.next hb)
    clear hb
    clear s0 s1 s2 s3 s4 s5 s6
    have s0 := Bs4.out.c0
    have s1 := Bs4.out.c1
    have s2 := Bs4.out.c2
    have s3 := Bs4.out.c3
    have s4 := Bs4.out.c4
    have s5 := Bs4.out.c5
    have s6 := Bs4.out.c6
    obtain rfl := q1.out
    go_wp2_with fail
    refine (s7_ends H HS.out HG4.out IX.out E1.out).mono ?_
    rintro e w5 ⟨rfl, hb⟩
    have HB5 := Lib.hid (HB4.out.trans (hb.mono HB4.out.size))
    clear hb
    go_wp2
    go_ret
    exact ⟨rfl, HB5.out⟩
  | true =>
    have q1 : r1 = a + s.long := by rw [← E1.out, ends_near hr hx0 (by omega)]
    have q2 : r2 = a + s.long := by rw [← E2.out, ends_near hr (by omega) hy1]
    have EN := Lib.hid (ends_never hr)
    have hl := (rightS_is hr).2.2.2.2.2.1
    have v1 : IntKind.i64.wrap (r1 - a) = s.long := by rw [IntWalk.i64_in _ (by omega)]; omega
    have v2 : IntKind.i64.wrap (r2 - r1) = 0 := by rw [IntWalk.i64_in _ (by omega)]; omega
    have v3 : IntKind.i64.wrap 0 = 0 := rfl
    have V := Lib.hid (And.intro v1 (And.intro v2 v3))
    have HR := Lib.hid hr
    clear hr q1 q2 v1 v2 v3 hl
    go_enter Try.func6, Try.ntmps6
    go_wp2_with fail
    rw [← hW]
    refine (awake7_any H _ HG0.out).mono ?_
    rintro e w1 ⟨rfl, hb⟩
    have HB1 := Lib.hid (HB0.out.trans (hb.mono HB0.out.size))
    have HG1 := Lib.hid (HG0.out.next hb)
    have Bs1 := Lib.hid (Bs0.out.next hb)
    clear hb
    have s0 := Bs1.out.c0
    have s1 := Bs1.out.c1
    have s2 := Bs1.out.c2
    have s3 := Bs1.out.c3
    have s4 := Bs1.out.c4
    have s5 := Bs1.out.c5
    have s6 := Bs1.out.c6
    go_wp2
    have HGD1 : Hid (Glob w1.drew) := Lib.hid (HG1.out.next (bel_drew w1 1))
    have HKEEP : Hid (∀ wx, Below w1.drew.heap.size w1.drew wx → wx.cell? ⟨w.heap.size, 0, none⟩ = some (.int .i64 s.nodes) ∧ wx.cell? ⟨w.heap.size, 1, none⟩ = some (.int .i64 s.cores) ∧ wx.cell? ⟨w.heap.size, 2, none⟩ = some (.int .i64 s.gpus) ∧ wx.cell? ⟨w.heap.size, 3, none⟩ = some (.string s.tag) ∧ wx.cell? ⟨w.heap.size, 4, none⟩ = some (.bool s.whole) ∧ wx.cell? ⟨w.heap.size, 5, none⟩ = some (.int .i64 s.long) ∧ wx.cell? ⟨w.heap.size, 6, none⟩ = some (.int .i64 s.prio)) := Lib.hid (fun wx hb => ⟨(((Bs1.out).next (bel_drew w1 1)).next hb).c0, (((Bs1.out).next (bel_drew w1 1)).next hb).c1, (((Bs1.out).next (bel_drew w1 1)).next hb).c2, (((Bs1.out).next (bel_drew w1 1)).next hb).c3, (((Bs1.out).next (bel_drew w1 1)).next hb).c4, (((Bs1.out).next (bel_drew w1 1)).next hb).c5, (((Bs1.out).next (bel_drew w1 1)).next hb).c6⟩)
    go_region_held3 (fun w' => w'.cell? ⟨w.heap.size, 0, none⟩ = some (.int .i64 s.nodes) ∧ w'.cell? ⟨w.heap.size, 1, none⟩ = some (.int .i64 s.cores) ∧ w'.cell? ⟨w.heap.size, 2, none⟩ = some (.int .i64 s.gpus) ∧ w'.cell? ⟨w.heap.size, 3, none⟩ = some (.string s.tag) ∧ w'.cell? ⟨w.heap.size, 4, none⟩ = some (.bool s.whole) ∧ w'.cell? ⟨w.heap.size, 5, none⟩ = some (.int .i64 s.long) ∧ w'.cell? ⟨w.heap.size, 6, none⟩ = some (.int .i64 s.prio))
      (first | exact HKEEP.out _ (Below.refl _ _) | go_keep | exact HKEEP.out _ HY2.out | exact HKEEP.out _ HY3.out | fail)
      (first | (go_at_call 12; (with_reducible refine (s7_ends (w := w1.drew) H HS.out HGD1.out IX.out E1.out).mono ?_); rintro e w2 ⟨rfl, hb⟩; have HY2 := Lib.hid hb; have HG2 := Lib.hid (Glob.next HGD1.out hb); clear hb) | (go_at_call 12; (with_reducible refine (s7_ends (w := w2) H HS.out HG2.out IY.out E2.out).mono ?_); rintro e w3 ⟨rfl, hb⟩; have HY3 := Lib.hid (HY2.out.trans (hb.mono HY2.out.size)); have HG3 := Lib.hid (Glob.next HG2.out hb); clear hb) | fail)
    have HX3 := Lib.hid (bel_und HY3.out)
    have HB3 := Lib.hid (HB1.out.trans (HX3.out.mono HB1.out.size))
    have Bs3 := Lib.hid (Bs1.out.next HX3.out)
    clear s0 s1 s2 s3 s4 s5 s6
    clear HKEEP
    have s0 := Bs3.out.c0
    have s1 := Bs3.out.c1
    have s2 := Bs3.out.c2
    have s3 := Bs3.out.c3
    have s4 := Bs3.out.c4
    have s5 := Bs3.out.c5
    have s6 := Bs3.out.c6
    go_wp2_with fail
    refine (s7_right H HS.out HG3.out HR.out).mono ?_
    rintro e w4 ⟨rfl, hb⟩
    have HB4 := Lib.hid (HB3.out.trans (hb.mono HB3.out.size))
    have HG4 := Lib.hid (HG3.out.next hb)
    have Bs4 := Lib.hid (Bs3.out.next hb)
    clear hb
    clear s0 s1 s2 s3 s4 s5 s6
    have s0 := Bs4.out.c0
    have s1 := Bs4.out.c1
    have s2 := Bs4.out.c2
    have s3 := Bs4.out.c3
    have s4 := Bs4.out.c4
    have s5 := Bs4.out.c5
    have s6 := Bs4.out.c6
    obtain ⟨v1, v2, v3⟩ := V.out
    go_wp2
    have HGD4 : Hid (Glob w4.drew) := Lib.hid (HG4.out.next (bel_drew w4 1))
    have HKEEP : Hid (∀ wx, Below w4.drew.heap.size w4.drew wx → wx.cell? ⟨w.heap.size, 0, none⟩ = some (.int .i64 s.nodes) ∧ wx.cell? ⟨w.heap.size, 1, none⟩ = some (.int .i64 s.cores) ∧ wx.cell? ⟨w.heap.size, 2, none⟩ = some (.int .i64 s.gpus) ∧ wx.cell? ⟨w.heap.size, 3, none⟩ = some (.string s.tag) ∧ wx.cell? ⟨w.heap.size, 4, none⟩ = some (.bool s.whole) ∧ wx.cell? ⟨w.heap.size, 5, none⟩ = some (.int .i64 s.long) ∧ wx.cell? ⟨w.heap.size, 6, none⟩ = some (.int .i64 s.prio)) := Lib.hid (fun wx hb => ⟨(((Bs4.out).next (bel_drew w4 1)).next hb).c0, (((Bs4.out).next (bel_drew w4 1)).next hb).c1, (((Bs4.out).next (bel_drew w4 1)).next hb).c2, (((Bs4.out).next (bel_drew w4 1)).next hb).c3, (((Bs4.out).next (bel_drew w4 1)).next hb).c4, (((Bs4.out).next (bel_drew w4 1)).next hb).c5, (((Bs4.out).next (bel_drew w4 1)).next hb).c6⟩)
    go_region_held3 (fun w' => w'.cell? ⟨w.heap.size, 0, none⟩ = some (.int .i64 s.nodes) ∧ w'.cell? ⟨w.heap.size, 1, none⟩ = some (.int .i64 s.cores) ∧ w'.cell? ⟨w.heap.size, 2, none⟩ = some (.int .i64 s.gpus) ∧ w'.cell? ⟨w.heap.size, 3, none⟩ = some (.string s.tag) ∧ w'.cell? ⟨w.heap.size, 4, none⟩ = some (.bool s.whole) ∧ w'.cell? ⟨w.heap.size, 5, none⟩ = some (.int .i64 s.long) ∧ w'.cell? ⟨w.heap.size, 6, none⟩ = some (.int .i64 s.prio))
      (first | exact HKEEP.out _ (Below.refl _ _) | go_keep | exact HKEEP.out _ HY5.out | exact HKEEP.out _ HY6.out | exact HKEEP.out _ HY7.out | exact HKEEP.out _ HY8.out | fail)
      (first | (go_at_call 12; (with_reducible refine (s7_ends (w := w4.drew) H HS.out HGD4.out IX.out E1.out).mono ?_); rintro e w5 ⟨rfl, hb⟩; have HY5 := Lib.hid hb; have HG5 := Lib.hid (Glob.next HGD4.out hb); clear hb) | (go_at_call 12; (with_reducible refine (s7_ends (w := w5) H HS.out HG5.out IY.out E2.out).mono ?_); rintro e w6 ⟨rfl, hb⟩; have HY6 := Lib.hid (HY5.out.trans (hb.mono HY5.out.size)); have HG6 := Lib.hid (Glob.next HG5.out hb); clear hb) | (go_at_call 12; (with_reducible refine (s7_ends (w := w6) H HS.out HG6.out IX.out E1.out).mono ?_); rintro e w7 ⟨rfl, hb⟩; have HY7 := Lib.hid (HY6.out.trans (hb.mono HY6.out.size)); have HG7 := Lib.hid (Glob.next HG6.out hb); clear hb) | (go_at_call 12; (with_reducible refine (s7_ends (w := w7) H HS.out HG7.out IN.out EN.out).mono ?_); rintro e w8 ⟨rfl, hb⟩; have HY8 := Lib.hid (HY7.out.trans (hb.mono HY7.out.size)); have HG8 := Lib.hid (Glob.next HG7.out hb); clear hb) | fail)
    have HX8 := Lib.hid (bel_und HY8.out)
    have HB8 := Lib.hid (HB4.out.trans (HX8.out.mono HB4.out.size))
    have Bs8 := Lib.hid (Bs4.out.next HX8.out)
    clear v1 v2 v3
    go_wp2
    go_ret
    exact ⟨rfl, HB8.out⟩

theorem specEnds_walk (H : SpecOk) (s : Sp) (a b : Int) (w : World) (hs : SAsk s) (ha : 0 ≤ a ∧ a ≤ 4294967295) (hb : 0 ≤ b ∧ b ≤ 4294967295) (hG : Glob w) :
    Calls Try.prog 6 #[spV s, .int .u32 a, .int .u32 b] w fun e w' => e = .returned (.bool true) ∧ Below w.heap.size w w' := by
  rcases Int.lt_trichotomy a b with h | h | h
  · exact specEnds_lt H s a b w hs h (by omega) (by omega) hG
  · subst h; exact specEnds_eq H s a w hs (by omega) (by omega) hG
  · exact specEnds_gt H s a b w hs h (by omega) (by omega) hG

end Go.Proofs.Ytggfacginheapaa
