/- The statement SpecRight, as a walk over the contracts: of any two specs, a time and a number the call returns true. -/
import Derived.Test.YtggfacginheapaaSpecLParts
import Derived.Test.YtggfacginheapaaSpecAhead
namespace Go.Proofs.Ytggfacginheapaa
open Go.RowKit

theorem ref7_ends {s : Sp} {x r : Int} {w : World} (hs : SAsk s) (hx : I64 x) (h : endsS s x = r) : Calls Try.prog 13 #[.agg #[.int .i64 s.nodes, .int .i64 s.cores, .int .i64 s.gpus, .string s.tag, .bool s.whole, .int .i64 s.long, .int .i64 s.prio], .int .i64 x] w fun e w' => e = .returned (.int .i64 r) ∧ Below w.heap.size w w' := refEnds_b hs hx h
theorem ref7_ahead {s t : Sp} {w : World} {v : Bool} (hs : SAsk s) (ht : SAsk t) (h : aheadS s t = v) : Calls Try.prog 15 #[.agg #[.int .i64 s.nodes, .int .i64 s.cores, .int .i64 s.gpus, .string s.tag, .bool s.whole, .int .i64 s.long, .int .i64 s.prio], .agg #[.int .i64 t.nodes, .int .i64 t.cores, .int .i64 t.gpus, .string t.tag, .bool t.whole, .int .i64 t.long, .int .i64 t.prio]] w fun e w' => e = .returned (.bool v) ∧ Below w.heap.size w w' := refAhead_b hs ht h
theorem asks_wrong {s : Sp} (h : rightS s = false) : asksS s = (0, 0, 0) := by unfold asksS; rw [if_neg (by rw [h]; simp)]
theorem parts_neg {s : Sp} {x : Int} (h : x < 0) : partS s x = (⟨0, 0, 0, ⟨#[]⟩, false, 0, 0⟩, 1) := by unfold partS; rw [if_pos (.inr h)]; rfl
theorem parts_wrong {s : Sp} {x : Int} (h : rightS s = false) : partS s x = (⟨0, 0, 0, ⟨#[]⟩, false, 0, 0⟩, 1) := by unfold partS; rw [if_pos (.inl h)]; rfl
theorem parts_yes {s : Sp} {x : Int} (h : rightS s = true) (h0 : 0 ≤ x) (h1 : ¬ s.nodes ≤ x) : partS s x = (⟨s.nodes - x, s.cores, s.gpus, s.tag, s.whole, s.long, s.prio⟩, 0) := by rw [partS_ok h h0, if_neg h1]

set_option maxRecDepth 100000 in
set_option maxHeartbeats 16000000 in
theorem specRight_walk (H : SpecOk) (a b : Sp) (f x : Int) (w : World) (ha : SAsk a) (hb : SAsk b) (hf : I64 f) (hx : I64 x) (hG : Glob w) :
    Calls Try.prog 3 #[.agg #[.int .i64 a.nodes, .int .i64 a.cores, .int .i64 a.gpus, .string a.tag, .bool a.whole, .int .i64 a.long, .int .i64 a.prio], .agg #[.int .i64 b.nodes, .int .i64 b.cores, .int .i64 b.gpus, .string b.tag, .bool b.whole, .int .i64 b.long, .int .i64 b.prio], .int .i64 f, .int .i64 x] w fun e w' => e = .returned (.bool true) ∧ Below w.heap.size w w' := by
  have Aa := Lib.hid ha
  have Ab := Lib.hid hb
  have IF := Lib.hid hf
  have IX := Lib.hid hx
  clear ha hb hf hx
  obtain ⟨W, hW⟩ : ∃ W, W = ((w).alloc (spO a)).alloc (spO b) := ⟨_, rfl⟩
  have Ba0 : Hid (BoxS W (w.heap.size) a) := Lib.hid (by rw [hW]; have h := ((box_new (w) a).alloc (spO b)); simpa using h)
  have Bb0 : Hid (BoxS W (w.heap.size + 1) b) := Lib.hid (by rw [hW]; have h := (box_new ((w).alloc (spO a)) b); simpa using h)
  have HB0 : Hid (Below w.heap.size w W) := Lib.hid (by rw [hW]; exact (((Below.refl _ _).alloc (by simp <;> omega) _).alloc (by simp <;> omega) _))
  have HG0 := Lib.hid (hG.next HB0.out)
  unfold spO at hW
  obtain ⟨r1, h1⟩ : ∃ r, endsS a f = r := ⟨_, rfl⟩
  obtain ⟨r2, h2⟩ : ∃ r, aheadS a b = r := ⟨_, rfl⟩
  have E1 := Lib.hid h1
  have E2 := Lib.hid h2
  clear h1 h2
  cases hr : rightS a with
  | false =>
    have Ra := Lib.hid hr
    have E3 := Lib.hid (asks_wrong hr)
    have E4 := Lib.hid (parts_wrong (x := x) hr)
    clear hr
    go_enter Try.func3, Try.ntmps3
    go_wp2_with fail
    rw [← hW]
    refine (awake7_any H _ HG0.out).mono ?_
    rintro e w1 ⟨rfl, hb⟩
    have HB1 := Lib.hid (HB0.out.trans (hb.mono HB0.out.size))
    have HG1 := Lib.hid (HG0.out.next hb)
    have Ba1 := Lib.hid (Ba0.out.next hb)
    have Bb1 := Lib.hid (Bb0.out.next hb)
    clear hb
    have a0 := Ba1.out.c0
    have a1 := Ba1.out.c1
    have a2 := Ba1.out.c2
    have a3 := Ba1.out.c3
    have a4 := Ba1.out.c4
    have a5 := Ba1.out.c5
    have a6 := Ba1.out.c6
    have b0 := Bb1.out.c0
    have b1 := Bb1.out.c1
    have b2 := Bb1.out.c2
    have b3 := Bb1.out.c3
    have b4 := Bb1.out.c4
    have b5 := Bb1.out.c5
    have b6 := Bb1.out.c6
    go_wp2_with fail
    refine (refRightS_b Aa.out Ra.out).mono ?_
    rintro e w2 ⟨rfl, hb⟩
    have HB2 := Lib.hid (HB1.out.trans (hb.mono HB1.out.size))
    have HG2 := Lib.hid (HG1.out.next hb)
    have Ba2 := Lib.hid (Ba1.out.next hb)
    have Bb2 := Lib.hid (Bb1.out.next hb)
    clear hb
    clear a0 a1 a2 a3 a4 a5 a6 b0 b1 b2 b3 b4 b5 b6
    have a0 := Ba2.out.c0
    have a1 := Ba2.out.c1
    have a2 := Ba2.out.c2
    have a3 := Ba2.out.c3
    have a4 := Ba2.out.c4
    have a5 := Ba2.out.c5
    have a6 := Ba2.out.c6
    have b0 := Bb2.out.c0
    have b1 := Bb2.out.c1
    have b2 := Bb2.out.c2
    have b3 := Bb2.out.c3
    have b4 := Bb2.out.c4
    have b5 := Bb2.out.c5
    have b6 := Bb2.out.c6
    go_wp2_with fail
    refine (s7_asks H Aa.out HG2.out E3.out).mono ?_
    rintro e w3 ⟨rfl, hb⟩
    have HB3 := Lib.hid (HB2.out.trans (hb.mono HB2.out.size))
    have HG3 := Lib.hid (HG2.out.next hb)
    have Ba3 := Lib.hid (Ba2.out.next hb)
    have Bb3 := Lib.hid (Bb2.out.next hb)
    clear hb
    clear a0 a1 a2 a3 a4 a5 a6 b0 b1 b2 b3 b4 b5 b6
    have a0 := Ba3.out.c0
    have a1 := Ba3.out.c1
    have a2 := Ba3.out.c2
    have a3 := Ba3.out.c3
    have a4 := Ba3.out.c4
    have a5 := Ba3.out.c5
    have a6 := Ba3.out.c6
    have b0 := Bb3.out.c0
    have b1 := Bb3.out.c1
    have b2 := Bb3.out.c2
    have b3 := Bb3.out.c3
    have b4 := Bb3.out.c4
    have b5 := Bb3.out.c5
    have b6 := Bb3.out.c6
    go_wp2_with fail
    refine (s7_right H Aa.out HG3.out Ra.out).mono ?_
    rintro e w4 ⟨rfl, hb⟩
    have HB4 := Lib.hid (HB3.out.trans (hb.mono HB3.out.size))
    have HG4 := Lib.hid (HG3.out.next hb)
    have Ba4 := Lib.hid (Ba3.out.next hb)
    have Bb4 := Lib.hid (Bb3.out.next hb)
    clear hb
    clear a0 a1 a2 a3 a4 a5 a6 b0 b1 b2 b3 b4 b5 b6
    have a0 := Ba4.out.c0
    have a1 := Ba4.out.c1
    have a2 := Ba4.out.c2
    have a3 := Ba4.out.c3
    have a4 := Ba4.out.c4
    have a5 := Ba4.out.c5
    have a6 := Ba4.out.c6
    have b0 := Bb4.out.c0
    have b1 := Bb4.out.c1
    have b2 := Bb4.out.c2
    have b3 := Bb4.out.c3
    have b4 := Bb4.out.c4
    have b5 := Bb4.out.c5
    have b6 := Bb4.out.c6
    go_wp2_with fail
    refine (s7_part H Aa.out HG4.out IX.out E4.out).mono ?_
    rintro e w5 ⟨rfl, hb⟩
    have HB5 := Lib.hid (HB4.out.trans (hb.mono HB4.out.size))
    have HG5 := Lib.hid (HG4.out.next hb)
    have Ba5 := Lib.hid (Ba4.out.next hb)
    have Bb5 := Lib.hid (Bb4.out.next hb)
    clear hb
    clear a0 a1 a2 a3 a4 a5 a6 b0 b1 b2 b3 b4 b5 b6
    have alt := Ba5.out.lt
    have blt := Bb5.out.lt
    have a0 := Ba5.out.c0
    have a1 := Ba5.out.c1
    have a2 := Ba5.out.c2
    have a3 := Ba5.out.c3
    have a4 := Ba5.out.c4
    have a5 := Ba5.out.c5
    have a6 := Ba5.out.c6
    have b0 := Bb5.out.c0
    have b1 := Bb5.out.c1
    have b2 := Bb5.out.c2
    have b3 := Bb5.out.c3
    have b4 := Bb5.out.c4
    have b5 := Bb5.out.c5
    have b6 := Bb5.out.c6
    go_wp2
    obtain ⟨u, hu⟩ : ∃ u : Sp, u = ⟨0, 0, 0, ⟨#[]⟩, false, 0, 0⟩ := ⟨_, rfl⟩
    obtain ⟨w6, hw⟩ : ∃ w6, w6 = (w5.alloc (spO u)).alloc (spO u) := ⟨_, rfl⟩
    have HX6 : Hid (Below w5.heap.size w5 w6) := Lib.hid (by rw [hw]; exact (bel_box _).alloc (by simp) _)
    have HB6 := Lib.hid (HB5.out.trans (HX6.out.mono HB5.out.size))
    have HG6 := Lib.hid (HG5.out.next HX6.out)
    have Ba6 := Lib.hid (Ba5.out.next HX6.out)
    have Bb6 := Lib.hid (Bb5.out.next HX6.out)
    have Bp6 : Hid (BoxS w6 w5.heap.size u) := Lib.hid (by rw [hw]; exact (box_new w5 u).alloc _)
    have Bq6 : Hid (BoxS w6 (w5.heap.size + 1) u) := Lib.hid (by rw [hw]; have h := box_new (w5.alloc (spO u)) u; simpa using h)
    rw [hu] at hw
    unfold spO at hw
    dsimp only at hw
    rw [← hw]
    clear hw hu alt blt
    clear a0 a1 a2 a3 a4 a5 a6 b0 b1 b2 b3 b4 b5 b6
    have HGD6 : Hid (Glob w6.drew) := Lib.hid (HG6.out.next (bel_drew w6 1))
    have HKEEP : Hid (∀ wx, Below w6.drew.heap.size w6.drew wx → wx.cell? ⟨w.heap.size, 0, none⟩ = some (.int .i64 a.nodes) ∧ wx.cell? ⟨w.heap.size, 1, none⟩ = some (.int .i64 a.cores) ∧ wx.cell? ⟨w.heap.size, 2, none⟩ = some (.int .i64 a.gpus) ∧ wx.cell? ⟨w.heap.size, 3, none⟩ = some (.string a.tag) ∧ wx.cell? ⟨w.heap.size, 4, none⟩ = some (.bool a.whole) ∧ wx.cell? ⟨w.heap.size, 5, none⟩ = some (.int .i64 a.long) ∧ wx.cell? ⟨w.heap.size, 6, none⟩ = some (.int .i64 a.prio) ∧ wx.cell? ⟨w.heap.size + 1, 0, none⟩ = some (.int .i64 b.nodes) ∧ wx.cell? ⟨w.heap.size + 1, 1, none⟩ = some (.int .i64 b.cores) ∧ wx.cell? ⟨w.heap.size + 1, 2, none⟩ = some (.int .i64 b.gpus) ∧ wx.cell? ⟨w.heap.size + 1, 3, none⟩ = some (.string b.tag) ∧ wx.cell? ⟨w.heap.size + 1, 4, none⟩ = some (.bool b.whole) ∧ wx.cell? ⟨w.heap.size + 1, 5, none⟩ = some (.int .i64 b.long) ∧ wx.cell? ⟨w.heap.size + 1, 6, none⟩ = some (.int .i64 b.prio) ∧ wx.cell? ⟨w5.heap.size, 0, none⟩ = some (.int .i64 u.nodes) ∧ wx.cell? ⟨w5.heap.size, 1, none⟩ = some (.int .i64 u.cores) ∧ wx.cell? ⟨w5.heap.size, 2, none⟩ = some (.int .i64 u.gpus) ∧ wx.cell? ⟨w5.heap.size, 3, none⟩ = some (.string u.tag) ∧ wx.cell? ⟨w5.heap.size, 4, none⟩ = some (.bool u.whole) ∧ wx.cell? ⟨w5.heap.size, 5, none⟩ = some (.int .i64 u.long) ∧ wx.cell? ⟨w5.heap.size, 6, none⟩ = some (.int .i64 u.prio) ∧ wx.cell? ⟨w5.heap.size + 1, 0, none⟩ = some (.int .i64 u.nodes) ∧ wx.cell? ⟨w5.heap.size + 1, 1, none⟩ = some (.int .i64 u.cores) ∧ wx.cell? ⟨w5.heap.size + 1, 2, none⟩ = some (.int .i64 u.gpus) ∧ wx.cell? ⟨w5.heap.size + 1, 3, none⟩ = some (.string u.tag) ∧ wx.cell? ⟨w5.heap.size + 1, 4, none⟩ = some (.bool u.whole) ∧ wx.cell? ⟨w5.heap.size + 1, 5, none⟩ = some (.int .i64 u.long) ∧ wx.cell? ⟨w5.heap.size + 1, 6, none⟩ = some (.int .i64 u.prio)) := Lib.hid (fun wx hb => ⟨(((Ba6.out).next (bel_drew w6 1)).next hb).c0, (((Ba6.out).next (bel_drew w6 1)).next hb).c1, (((Ba6.out).next (bel_drew w6 1)).next hb).c2, (((Ba6.out).next (bel_drew w6 1)).next hb).c3, (((Ba6.out).next (bel_drew w6 1)).next hb).c4, (((Ba6.out).next (bel_drew w6 1)).next hb).c5, (((Ba6.out).next (bel_drew w6 1)).next hb).c6, (((Bb6.out).next (bel_drew w6 1)).next hb).c0, (((Bb6.out).next (bel_drew w6 1)).next hb).c1, (((Bb6.out).next (bel_drew w6 1)).next hb).c2, (((Bb6.out).next (bel_drew w6 1)).next hb).c3, (((Bb6.out).next (bel_drew w6 1)).next hb).c4, (((Bb6.out).next (bel_drew w6 1)).next hb).c5, (((Bb6.out).next (bel_drew w6 1)).next hb).c6, (((Bp6.out).next (bel_drew w6 1)).next hb).c0, (((Bp6.out).next (bel_drew w6 1)).next hb).c1, (((Bp6.out).next (bel_drew w6 1)).next hb).c2, (((Bp6.out).next (bel_drew w6 1)).next hb).c3, (((Bp6.out).next (bel_drew w6 1)).next hb).c4, (((Bp6.out).next (bel_drew w6 1)).next hb).c5, (((Bp6.out).next (bel_drew w6 1)).next hb).c6, (((Bq6.out).next (bel_drew w6 1)).next hb).c0, (((Bq6.out).next (bel_drew w6 1)).next hb).c1, (((Bq6.out).next (bel_drew w6 1)).next hb).c2, (((Bq6.out).next (bel_drew w6 1)).next hb).c3, (((Bq6.out).next (bel_drew w6 1)).next hb).c4, (((Bq6.out).next (bel_drew w6 1)).next hb).c5, (((Bq6.out).next (bel_drew w6 1)).next hb).c6⟩)
    go_region_held3 (fun w' => w'.cell? ⟨w.heap.size, 0, none⟩ = some (.int .i64 a.nodes) ∧ w'.cell? ⟨w.heap.size, 1, none⟩ = some (.int .i64 a.cores) ∧ w'.cell? ⟨w.heap.size, 2, none⟩ = some (.int .i64 a.gpus) ∧ w'.cell? ⟨w.heap.size, 3, none⟩ = some (.string a.tag) ∧ w'.cell? ⟨w.heap.size, 4, none⟩ = some (.bool a.whole) ∧ w'.cell? ⟨w.heap.size, 5, none⟩ = some (.int .i64 a.long) ∧ w'.cell? ⟨w.heap.size, 6, none⟩ = some (.int .i64 a.prio) ∧ w'.cell? ⟨w.heap.size + 1, 0, none⟩ = some (.int .i64 b.nodes) ∧ w'.cell? ⟨w.heap.size + 1, 1, none⟩ = some (.int .i64 b.cores) ∧ w'.cell? ⟨w.heap.size + 1, 2, none⟩ = some (.int .i64 b.gpus) ∧ w'.cell? ⟨w.heap.size + 1, 3, none⟩ = some (.string b.tag) ∧ w'.cell? ⟨w.heap.size + 1, 4, none⟩ = some (.bool b.whole) ∧ w'.cell? ⟨w.heap.size + 1, 5, none⟩ = some (.int .i64 b.long) ∧ w'.cell? ⟨w.heap.size + 1, 6, none⟩ = some (.int .i64 b.prio) ∧ w'.cell? ⟨w5.heap.size, 0, none⟩ = some (.int .i64 u.nodes) ∧ w'.cell? ⟨w5.heap.size, 1, none⟩ = some (.int .i64 u.cores) ∧ w'.cell? ⟨w5.heap.size, 2, none⟩ = some (.int .i64 u.gpus) ∧ w'.cell? ⟨w5.heap.size, 3, none⟩ = some (.string u.tag) ∧ w'.cell? ⟨w5.heap.size, 4, none⟩ = some (.bool u.whole) ∧ w'.cell? ⟨w5.heap.size, 5, none⟩ = some (.int .i64 u.long) ∧ w'.cell? ⟨w5.heap.size, 6, none⟩ = some (.int .i64 u.prio) ∧ w'.cell? ⟨w5.heap.size + 1, 0, none⟩ = some (.int .i64 u.nodes) ∧ w'.cell? ⟨w5.heap.size + 1, 1, none⟩ = some (.int .i64 u.cores) ∧ w'.cell? ⟨w5.heap.size + 1, 2, none⟩ = some (.int .i64 u.gpus) ∧ w'.cell? ⟨w5.heap.size + 1, 3, none⟩ = some (.string u.tag) ∧ w'.cell? ⟨w5.heap.size + 1, 4, none⟩ = some (.bool u.whole) ∧ w'.cell? ⟨w5.heap.size + 1, 5, none⟩ = some (.int .i64 u.long) ∧ w'.cell? ⟨w5.heap.size + 1, 6, none⟩ = some (.int .i64 u.prio))
      (first | exact HKEEP.out _ (Below.refl _ _) | go_keep | exact HKEEP.out _ HY7.out | exact HKEEP.out _ HY8.out | exact HKEEP.out _ HY9.out | exact HKEEP.out _ HY10.out | fail)
      (first | (go_at_call 12; (with_reducible refine (s7_ends (w := w6.drew) H Aa.out HGD6.out IF.out E1.out).mono ?_); rintro e w7 ⟨rfl, hb⟩; have HY7 := Lib.hid hb; have HG7 := Lib.hid (Glob.next HGD6.out hb); clear hb) | (go_at_call 13; (with_reducible refine (ref7_ends (w := w7) Aa.out IF.out E1.out).mono ?_); rintro e w8 ⟨rfl, hb⟩; have HY8 := Lib.hid (HY7.out.trans (hb.mono HY7.out.size)); have HG8 := Lib.hid (Glob.next HG7.out hb); clear hb) | (go_at_call 14; (with_reducible refine (s7_ahead (w := w8) H Aa.out HG8.out Ab.out E2.out).mono ?_); rintro e w9 ⟨rfl, hb⟩; have HY9 := Lib.hid (HY8.out.trans (hb.mono HY8.out.size)); have HG9 := Lib.hid (Glob.next HG8.out hb); clear hb) | (go_at_call 15; (with_reducible refine (ref7_ahead (w := w9) Aa.out Ab.out E2.out).mono ?_); rintro e w10 ⟨rfl, hb⟩; have HY10 := Lib.hid (HY9.out.trans (hb.mono HY9.out.size)); have HG10 := Lib.hid (Glob.next HG9.out hb); clear hb) | fail)
    have HX10 := Lib.hid (bel_und HY10.out)
    have HB10 := Lib.hid (HB6.out.trans (HX10.out.mono HB6.out.size))
    have Ba10 := Lib.hid (Ba6.out.next HX10.out)
    have Bb10 := Lib.hid (Bb6.out.next HX10.out)
    have Bp10 := Lib.hid (Bp6.out.next HX10.out)
    have Bq10 := Lib.hid (Bq6.out.next HX10.out)
    clear HKEEP
    go_wp2
    go_ret
    exact ⟨rfl, HB10.out⟩
  | true =>
    have Ra := Lib.hid hr
    have bs := rightS_is hr
    have m1 := mul_bounds (x := a.nodes) (y := a.cores) (by omega) bs.2.1.2 bs.2.2.1.1 bs.2.2.1.2
    have m2 := mul_bounds (x := a.nodes) (y := a.gpus) (by omega) bs.2.1.2 bs.2.2.2.1.1 bs.2.2.2.1.2
    obtain ⟨c1, hc1⟩ : ∃ c, a.nodes * a.cores = c := ⟨_, rfl⟩
    obtain ⟨g1, hg1⟩ : ∃ c, a.nodes * a.gpus = c := ⟨_, rfl⟩
    have E3 : Hid (asksS a = (a.nodes, c1, g1)) := Lib.hid (by rw [asks_right hr, hc1, hg1])
    rw [hc1] at m1
    rw [hg1] at m2
    have KK := Lib.hid (And.intro hc1 (And.intro hg1 (And.intro m1 (And.intro m2 bs.2.1))))
    clear hc1 hg1 m1 m2
    by_cases hx0 : x < 0
    · have E4 := Lib.hid (parts_neg (s := a) hx0)
      have hxd : decide (x < 0) = true := by simpa using hx0
      clear hr bs hx0
      go_enter Try.func3, Try.ntmps3
      go_wp2_with fail
      rw [← hW]
      refine (awake7_any H _ HG0.out).mono ?_
      rintro e w1 ⟨rfl, hb⟩
      have HB1 := Lib.hid (HB0.out.trans (hb.mono HB0.out.size))
      have HG1 := Lib.hid (HG0.out.next hb)
      have Ba1 := Lib.hid (Ba0.out.next hb)
      have Bb1 := Lib.hid (Bb0.out.next hb)
      clear hb
      have a0 := Ba1.out.c0
      have a1 := Ba1.out.c1
      have a2 := Ba1.out.c2
      have a3 := Ba1.out.c3
      have a4 := Ba1.out.c4
      have a5 := Ba1.out.c5
      have a6 := Ba1.out.c6
      have b0 := Bb1.out.c0
      have b1 := Bb1.out.c1
      have b2 := Bb1.out.c2
      have b3 := Bb1.out.c3
      have b4 := Bb1.out.c4
      have b5 := Bb1.out.c5
      have b6 := Bb1.out.c6
      go_wp2_with fail
      refine (refRightS_b Aa.out Ra.out).mono ?_
      rintro e w2 ⟨rfl, hb⟩
      have HB2 := Lib.hid (HB1.out.trans (hb.mono HB1.out.size))
      have HG2 := Lib.hid (HG1.out.next hb)
      have Ba2 := Lib.hid (Ba1.out.next hb)
      have Bb2 := Lib.hid (Bb1.out.next hb)
      clear hb
      clear a0 a1 a2 a3 a4 a5 a6 b0 b1 b2 b3 b4 b5 b6
      have a0 := Ba2.out.c0
      have a1 := Ba2.out.c1
      have a2 := Ba2.out.c2
      have a3 := Ba2.out.c3
      have a4 := Ba2.out.c4
      have a5 := Ba2.out.c5
      have a6 := Ba2.out.c6
      have b0 := Bb2.out.c0
      have b1 := Bb2.out.c1
      have b2 := Bb2.out.c2
      have b3 := Bb2.out.c3
      have b4 := Bb2.out.c4
      have b5 := Bb2.out.c5
      have b6 := Bb2.out.c6
      go_wp2_with fail
      refine (s7_asks H Aa.out HG2.out E3.out).mono ?_
      rintro e w3 ⟨rfl, hb⟩
      have HB3 := Lib.hid (HB2.out.trans (hb.mono HB2.out.size))
      have HG3 := Lib.hid (HG2.out.next hb)
      have Ba3 := Lib.hid (Ba2.out.next hb)
      have Bb3 := Lib.hid (Bb2.out.next hb)
      clear hb
      clear a0 a1 a2 a3 a4 a5 a6 b0 b1 b2 b3 b4 b5 b6
      have a0 := Ba3.out.c0
      have a1 := Ba3.out.c1
      have a2 := Ba3.out.c2
      have a3 := Ba3.out.c3
      have a4 := Ba3.out.c4
      have a5 := Ba3.out.c5
      have a6 := Ba3.out.c6
      have b0 := Bb3.out.c0
      have b1 := Bb3.out.c1
      have b2 := Bb3.out.c2
      have b3 := Bb3.out.c3
      have b4 := Bb3.out.c4
      have b5 := Bb3.out.c5
      have b6 := Bb3.out.c6
      go_wp2_with fail
      refine (s7_right H Aa.out HG3.out Ra.out).mono ?_
      rintro e w4 ⟨rfl, hb⟩
      have HB4 := Lib.hid (HB3.out.trans (hb.mono HB3.out.size))
      have HG4 := Lib.hid (HG3.out.next hb)
      have Ba4 := Lib.hid (Ba3.out.next hb)
      have Bb4 := Lib.hid (Bb3.out.next hb)
      clear hb
      clear a0 a1 a2 a3 a4 a5 a6 b0 b1 b2 b3 b4 b5 b6
      obtain ⟨hc1, hg1, ⟨k1, k2⟩, ⟨k3, k4⟩, k5, k6⟩ := KK.out
      have a0 := Ba4.out.c0
      have a1 := Ba4.out.c1
      have a2 := Ba4.out.c2
      have a3 := Ba4.out.c3
      have a4 := Ba4.out.c4
      have a5 := Ba4.out.c5
      have a6 := Ba4.out.c6
      have b0 := Bb4.out.c0
      have b1 := Bb4.out.c1
      have b2 := Bb4.out.c2
      have b3 := Bb4.out.c3
      have b4 := Bb4.out.c4
      have b5 := Bb4.out.c5
      have b6 := Bb4.out.c6
      go_wp2_with fail
      clear hc1 hg1 k1 k2 k3 k4 k5 k6
      refine (s7_part H Aa.out HG4.out IX.out E4.out).mono ?_
      rintro e w5 ⟨rfl, hb⟩
      have HB5 := Lib.hid (HB4.out.trans (hb.mono HB4.out.size))
      have HG5 := Lib.hid (HG4.out.next hb)
      have Ba5 := Lib.hid (Ba4.out.next hb)
      have Bb5 := Lib.hid (Bb4.out.next hb)
      clear hb
      clear a0 a1 a2 a3 a4 a5 a6 b0 b1 b2 b3 b4 b5 b6
      have alt := Ba5.out.lt
      have blt := Bb5.out.lt
      have a0 := Ba5.out.c0
      have a1 := Ba5.out.c1
      have a2 := Ba5.out.c2
      have a3 := Ba5.out.c3
      have a4 := Ba5.out.c4
      have a5 := Ba5.out.c5
      have a6 := Ba5.out.c6
      have b0 := Bb5.out.c0
      have b1 := Bb5.out.c1
      have b2 := Bb5.out.c2
      have b3 := Bb5.out.c3
      have b4 := Bb5.out.c4
      have b5 := Bb5.out.c5
      have b6 := Bb5.out.c6
      go_wp2
      obtain ⟨u, hu⟩ : ∃ u : Sp, u = ⟨0, 0, 0, ⟨#[]⟩, false, 0, 0⟩ := ⟨_, rfl⟩
      obtain ⟨w6, hw⟩ : ∃ w6, w6 = (w5.alloc (spO u)).alloc (spO u) := ⟨_, rfl⟩
      have HX6 : Hid (Below w5.heap.size w5 w6) := Lib.hid (by rw [hw]; exact (bel_box _).alloc (by simp) _)
      have HB6 := Lib.hid (HB5.out.trans (HX6.out.mono HB5.out.size))
      have HG6 := Lib.hid (HG5.out.next HX6.out)
      have Ba6 := Lib.hid (Ba5.out.next HX6.out)
      have Bb6 := Lib.hid (Bb5.out.next HX6.out)
      have Bp6 : Hid (BoxS w6 w5.heap.size u) := Lib.hid (by rw [hw]; exact (box_new w5 u).alloc _)
      have Bq6 : Hid (BoxS w6 (w5.heap.size + 1) u) := Lib.hid (by rw [hw]; have h := box_new (w5.alloc (spO u)) u; simpa using h)
      rw [hu] at hw
      unfold spO at hw
      dsimp only at hw
      rw [← hw]
      clear hw hu alt blt
      clear a0 a1 a2 a3 a4 a5 a6 b0 b1 b2 b3 b4 b5 b6
      have HGD6 : Hid (Glob w6.drew) := Lib.hid (HG6.out.next (bel_drew w6 1))
      have HKEEP : Hid (∀ wx, Below w6.drew.heap.size w6.drew wx → wx.cell? ⟨w.heap.size, 0, none⟩ = some (.int .i64 a.nodes) ∧ wx.cell? ⟨w.heap.size, 1, none⟩ = some (.int .i64 a.cores) ∧ wx.cell? ⟨w.heap.size, 2, none⟩ = some (.int .i64 a.gpus) ∧ wx.cell? ⟨w.heap.size, 3, none⟩ = some (.string a.tag) ∧ wx.cell? ⟨w.heap.size, 4, none⟩ = some (.bool a.whole) ∧ wx.cell? ⟨w.heap.size, 5, none⟩ = some (.int .i64 a.long) ∧ wx.cell? ⟨w.heap.size, 6, none⟩ = some (.int .i64 a.prio) ∧ wx.cell? ⟨w.heap.size + 1, 0, none⟩ = some (.int .i64 b.nodes) ∧ wx.cell? ⟨w.heap.size + 1, 1, none⟩ = some (.int .i64 b.cores) ∧ wx.cell? ⟨w.heap.size + 1, 2, none⟩ = some (.int .i64 b.gpus) ∧ wx.cell? ⟨w.heap.size + 1, 3, none⟩ = some (.string b.tag) ∧ wx.cell? ⟨w.heap.size + 1, 4, none⟩ = some (.bool b.whole) ∧ wx.cell? ⟨w.heap.size + 1, 5, none⟩ = some (.int .i64 b.long) ∧ wx.cell? ⟨w.heap.size + 1, 6, none⟩ = some (.int .i64 b.prio) ∧ wx.cell? ⟨w5.heap.size, 0, none⟩ = some (.int .i64 u.nodes) ∧ wx.cell? ⟨w5.heap.size, 1, none⟩ = some (.int .i64 u.cores) ∧ wx.cell? ⟨w5.heap.size, 2, none⟩ = some (.int .i64 u.gpus) ∧ wx.cell? ⟨w5.heap.size, 3, none⟩ = some (.string u.tag) ∧ wx.cell? ⟨w5.heap.size, 4, none⟩ = some (.bool u.whole) ∧ wx.cell? ⟨w5.heap.size, 5, none⟩ = some (.int .i64 u.long) ∧ wx.cell? ⟨w5.heap.size, 6, none⟩ = some (.int .i64 u.prio) ∧ wx.cell? ⟨w5.heap.size + 1, 0, none⟩ = some (.int .i64 u.nodes) ∧ wx.cell? ⟨w5.heap.size + 1, 1, none⟩ = some (.int .i64 u.cores) ∧ wx.cell? ⟨w5.heap.size + 1, 2, none⟩ = some (.int .i64 u.gpus) ∧ wx.cell? ⟨w5.heap.size + 1, 3, none⟩ = some (.string u.tag) ∧ wx.cell? ⟨w5.heap.size + 1, 4, none⟩ = some (.bool u.whole) ∧ wx.cell? ⟨w5.heap.size + 1, 5, none⟩ = some (.int .i64 u.long) ∧ wx.cell? ⟨w5.heap.size + 1, 6, none⟩ = some (.int .i64 u.prio)) := Lib.hid (fun wx hb => ⟨(((Ba6.out).next (bel_drew w6 1)).next hb).c0, (((Ba6.out).next (bel_drew w6 1)).next hb).c1, (((Ba6.out).next (bel_drew w6 1)).next hb).c2, (((Ba6.out).next (bel_drew w6 1)).next hb).c3, (((Ba6.out).next (bel_drew w6 1)).next hb).c4, (((Ba6.out).next (bel_drew w6 1)).next hb).c5, (((Ba6.out).next (bel_drew w6 1)).next hb).c6, (((Bb6.out).next (bel_drew w6 1)).next hb).c0, (((Bb6.out).next (bel_drew w6 1)).next hb).c1, (((Bb6.out).next (bel_drew w6 1)).next hb).c2, (((Bb6.out).next (bel_drew w6 1)).next hb).c3, (((Bb6.out).next (bel_drew w6 1)).next hb).c4, (((Bb6.out).next (bel_drew w6 1)).next hb).c5, (((Bb6.out).next (bel_drew w6 1)).next hb).c6, (((Bp6.out).next (bel_drew w6 1)).next hb).c0, (((Bp6.out).next (bel_drew w6 1)).next hb).c1, (((Bp6.out).next (bel_drew w6 1)).next hb).c2, (((Bp6.out).next (bel_drew w6 1)).next hb).c3, (((Bp6.out).next (bel_drew w6 1)).next hb).c4, (((Bp6.out).next (bel_drew w6 1)).next hb).c5, (((Bp6.out).next (bel_drew w6 1)).next hb).c6, (((Bq6.out).next (bel_drew w6 1)).next hb).c0, (((Bq6.out).next (bel_drew w6 1)).next hb).c1, (((Bq6.out).next (bel_drew w6 1)).next hb).c2, (((Bq6.out).next (bel_drew w6 1)).next hb).c3, (((Bq6.out).next (bel_drew w6 1)).next hb).c4, (((Bq6.out).next (bel_drew w6 1)).next hb).c5, (((Bq6.out).next (bel_drew w6 1)).next hb).c6⟩)
      go_region_held3 (fun w' => w'.cell? ⟨w.heap.size, 0, none⟩ = some (.int .i64 a.nodes) ∧ w'.cell? ⟨w.heap.size, 1, none⟩ = some (.int .i64 a.cores) ∧ w'.cell? ⟨w.heap.size, 2, none⟩ = some (.int .i64 a.gpus) ∧ w'.cell? ⟨w.heap.size, 3, none⟩ = some (.string a.tag) ∧ w'.cell? ⟨w.heap.size, 4, none⟩ = some (.bool a.whole) ∧ w'.cell? ⟨w.heap.size, 5, none⟩ = some (.int .i64 a.long) ∧ w'.cell? ⟨w.heap.size, 6, none⟩ = some (.int .i64 a.prio) ∧ w'.cell? ⟨w.heap.size + 1, 0, none⟩ = some (.int .i64 b.nodes) ∧ w'.cell? ⟨w.heap.size + 1, 1, none⟩ = some (.int .i64 b.cores) ∧ w'.cell? ⟨w.heap.size + 1, 2, none⟩ = some (.int .i64 b.gpus) ∧ w'.cell? ⟨w.heap.size + 1, 3, none⟩ = some (.string b.tag) ∧ w'.cell? ⟨w.heap.size + 1, 4, none⟩ = some (.bool b.whole) ∧ w'.cell? ⟨w.heap.size + 1, 5, none⟩ = some (.int .i64 b.long) ∧ w'.cell? ⟨w.heap.size + 1, 6, none⟩ = some (.int .i64 b.prio) ∧ w'.cell? ⟨w5.heap.size, 0, none⟩ = some (.int .i64 u.nodes) ∧ w'.cell? ⟨w5.heap.size, 1, none⟩ = some (.int .i64 u.cores) ∧ w'.cell? ⟨w5.heap.size, 2, none⟩ = some (.int .i64 u.gpus) ∧ w'.cell? ⟨w5.heap.size, 3, none⟩ = some (.string u.tag) ∧ w'.cell? ⟨w5.heap.size, 4, none⟩ = some (.bool u.whole) ∧ w'.cell? ⟨w5.heap.size, 5, none⟩ = some (.int .i64 u.long) ∧ w'.cell? ⟨w5.heap.size, 6, none⟩ = some (.int .i64 u.prio) ∧ w'.cell? ⟨w5.heap.size + 1, 0, none⟩ = some (.int .i64 u.nodes) ∧ w'.cell? ⟨w5.heap.size + 1, 1, none⟩ = some (.int .i64 u.cores) ∧ w'.cell? ⟨w5.heap.size + 1, 2, none⟩ = some (.int .i64 u.gpus) ∧ w'.cell? ⟨w5.heap.size + 1, 3, none⟩ = some (.string u.tag) ∧ w'.cell? ⟨w5.heap.size + 1, 4, none⟩ = some (.bool u.whole) ∧ w'.cell? ⟨w5.heap.size + 1, 5, none⟩ = some (.int .i64 u.long) ∧ w'.cell? ⟨w5.heap.size + 1, 6, none⟩ = some (.int .i64 u.prio))
        (first | exact HKEEP.out _ (Below.refl _ _) | go_keep | exact HKEEP.out _ HY7.out | exact HKEEP.out _ HY8.out | exact HKEEP.out _ HY9.out | exact HKEEP.out _ HY10.out | fail)
        (first | (go_at_call 12; (with_reducible refine (s7_ends (w := w6.drew) H Aa.out HGD6.out IF.out E1.out).mono ?_); rintro e w7 ⟨rfl, hb⟩; have HY7 := Lib.hid hb; have HG7 := Lib.hid (Glob.next HGD6.out hb); clear hb) | (go_at_call 13; (with_reducible refine (ref7_ends (w := w7) Aa.out IF.out E1.out).mono ?_); rintro e w8 ⟨rfl, hb⟩; have HY8 := Lib.hid (HY7.out.trans (hb.mono HY7.out.size)); have HG8 := Lib.hid (Glob.next HG7.out hb); clear hb) | (go_at_call 14; (with_reducible refine (s7_ahead (w := w8) H Aa.out HG8.out Ab.out E2.out).mono ?_); rintro e w9 ⟨rfl, hb⟩; have HY9 := Lib.hid (HY8.out.trans (hb.mono HY8.out.size)); have HG9 := Lib.hid (Glob.next HG8.out hb); clear hb) | (go_at_call 15; (with_reducible refine (ref7_ahead (w := w9) Aa.out Ab.out E2.out).mono ?_); rintro e w10 ⟨rfl, hb⟩; have HY10 := Lib.hid (HY9.out.trans (hb.mono HY9.out.size)); have HG10 := Lib.hid (Glob.next HG9.out hb); clear hb) | fail)
      have HX10 := Lib.hid (bel_und HY10.out)
      have HB10 := Lib.hid (HB6.out.trans (HX10.out.mono HB6.out.size))
      have Ba10 := Lib.hid (Ba6.out.next HX10.out)
      have Bb10 := Lib.hid (Bb6.out.next HX10.out)
      have Bp10 := Lib.hid (Bp6.out.next HX10.out)
      have Bq10 := Lib.hid (Bq6.out.next HX10.out)
      clear HKEEP
      go_wp2
      go_ret
      exact ⟨rfl, HB10.out⟩
    · have hxd : decide (x < 0) = false := by simpa using hx0
      by_cases hx1 : a.nodes ≤ x
      · have E4 := Lib.hid (parts_none (by omega) hr hx1)
        have hxe : decide (a.nodes ≤ x) = true := by simpa using hx1
        clear hr bs hx0 hx1
        go_enter Try.func3, Try.ntmps3
        go_wp2_with fail
        rw [← hW]
        refine (awake7_any H _ HG0.out).mono ?_
        rintro e w1 ⟨rfl, hb⟩
        have HB1 := Lib.hid (HB0.out.trans (hb.mono HB0.out.size))
        have HG1 := Lib.hid (HG0.out.next hb)
        have Ba1 := Lib.hid (Ba0.out.next hb)
        have Bb1 := Lib.hid (Bb0.out.next hb)
        clear hb
        have a0 := Ba1.out.c0
        have a1 := Ba1.out.c1
        have a2 := Ba1.out.c2
        have a3 := Ba1.out.c3
        have a4 := Ba1.out.c4
        have a5 := Ba1.out.c5
        have a6 := Ba1.out.c6
        have b0 := Bb1.out.c0
        have b1 := Bb1.out.c1
        have b2 := Bb1.out.c2
        have b3 := Bb1.out.c3
        have b4 := Bb1.out.c4
        have b5 := Bb1.out.c5
        have b6 := Bb1.out.c6
        go_wp2_with fail
        refine (refRightS_b Aa.out Ra.out).mono ?_
        rintro e w2 ⟨rfl, hb⟩
        have HB2 := Lib.hid (HB1.out.trans (hb.mono HB1.out.size))
        have HG2 := Lib.hid (HG1.out.next hb)
        have Ba2 := Lib.hid (Ba1.out.next hb)
        have Bb2 := Lib.hid (Bb1.out.next hb)
        clear hb
        clear a0 a1 a2 a3 a4 a5 a6 b0 b1 b2 b3 b4 b5 b6
        have a0 := Ba2.out.c0
        have a1 := Ba2.out.c1
        have a2 := Ba2.out.c2
        have a3 := Ba2.out.c3
        have a4 := Ba2.out.c4
        have a5 := Ba2.out.c5
        have a6 := Ba2.out.c6
        have b0 := Bb2.out.c0
        have b1 := Bb2.out.c1
        have b2 := Bb2.out.c2
        have b3 := Bb2.out.c3
        have b4 := Bb2.out.c4
        have b5 := Bb2.out.c5
        have b6 := Bb2.out.c6
        go_wp2_with fail
        refine (s7_asks H Aa.out HG2.out E3.out).mono ?_
        rintro e w3 ⟨rfl, hb⟩
        have HB3 := Lib.hid (HB2.out.trans (hb.mono HB2.out.size))
        have HG3 := Lib.hid (HG2.out.next hb)
        have Ba3 := Lib.hid (Ba2.out.next hb)
        have Bb3 := Lib.hid (Bb2.out.next hb)
        clear hb
        clear a0 a1 a2 a3 a4 a5 a6 b0 b1 b2 b3 b4 b5 b6
        have a0 := Ba3.out.c0
        have a1 := Ba3.out.c1
        have a2 := Ba3.out.c2
        have a3 := Ba3.out.c3
        have a4 := Ba3.out.c4
        have a5 := Ba3.out.c5
        have a6 := Ba3.out.c6
        have b0 := Bb3.out.c0
        have b1 := Bb3.out.c1
        have b2 := Bb3.out.c2
        have b3 := Bb3.out.c3
        have b4 := Bb3.out.c4
        have b5 := Bb3.out.c5
        have b6 := Bb3.out.c6
        go_wp2_with fail
        refine (s7_right H Aa.out HG3.out Ra.out).mono ?_
        rintro e w4 ⟨rfl, hb⟩
        have HB4 := Lib.hid (HB3.out.trans (hb.mono HB3.out.size))
        have HG4 := Lib.hid (HG3.out.next hb)
        have Ba4 := Lib.hid (Ba3.out.next hb)
        have Bb4 := Lib.hid (Bb3.out.next hb)
        clear hb
        clear a0 a1 a2 a3 a4 a5 a6 b0 b1 b2 b3 b4 b5 b6
        obtain ⟨hc1, hg1, ⟨k1, k2⟩, ⟨k3, k4⟩, k5, k6⟩ := KK.out
        have a0 := Ba4.out.c0
        have a1 := Ba4.out.c1
        have a2 := Ba4.out.c2
        have a3 := Ba4.out.c3
        have a4 := Ba4.out.c4
        have a5 := Ba4.out.c5
        have a6 := Ba4.out.c6
        have b0 := Bb4.out.c0
        have b1 := Bb4.out.c1
        have b2 := Bb4.out.c2
        have b3 := Bb4.out.c3
        have b4 := Bb4.out.c4
        have b5 := Bb4.out.c5
        have b6 := Bb4.out.c6
        go_wp2_with fail
        clear hc1 hg1 k1 k2 k3 k4 k5 k6
        refine (s7_part H Aa.out HG4.out IX.out E4.out).mono ?_
        rintro e w5 ⟨rfl, hb⟩
        have HB5 := Lib.hid (HB4.out.trans (hb.mono HB4.out.size))
        have HG5 := Lib.hid (HG4.out.next hb)
        have Ba5 := Lib.hid (Ba4.out.next hb)
        have Bb5 := Lib.hid (Bb4.out.next hb)
        clear hb
        clear a0 a1 a2 a3 a4 a5 a6 b0 b1 b2 b3 b4 b5 b6
        have alt := Ba5.out.lt
        have blt := Bb5.out.lt
        have a0 := Ba5.out.c0
        have a1 := Ba5.out.c1
        have a2 := Ba5.out.c2
        have a3 := Ba5.out.c3
        have a4 := Ba5.out.c4
        have a5 := Ba5.out.c5
        have a6 := Ba5.out.c6
        have b0 := Bb5.out.c0
        have b1 := Bb5.out.c1
        have b2 := Bb5.out.c2
        have b3 := Bb5.out.c3
        have b4 := Bb5.out.c4
        have b5 := Bb5.out.c5
        have b6 := Bb5.out.c6
        go_wp2
        obtain ⟨u, hu⟩ : ∃ u : Sp, u = ⟨0, 0, 0, ⟨#[]⟩, false, 0, 0⟩ := ⟨_, rfl⟩
        obtain ⟨w6, hw⟩ : ∃ w6, w6 = (w5.alloc (spO u)).alloc (spO u) := ⟨_, rfl⟩
        have HX6 : Hid (Below w5.heap.size w5 w6) := Lib.hid (by rw [hw]; exact (bel_box _).alloc (by simp) _)
        have HB6 := Lib.hid (HB5.out.trans (HX6.out.mono HB5.out.size))
        have HG6 := Lib.hid (HG5.out.next HX6.out)
        have Ba6 := Lib.hid (Ba5.out.next HX6.out)
        have Bb6 := Lib.hid (Bb5.out.next HX6.out)
        have Bp6 : Hid (BoxS w6 w5.heap.size u) := Lib.hid (by rw [hw]; exact (box_new w5 u).alloc _)
        have Bq6 : Hid (BoxS w6 (w5.heap.size + 1) u) := Lib.hid (by rw [hw]; have h := box_new (w5.alloc (spO u)) u; simpa using h)
        rw [hu] at hw
        unfold spO at hw
        dsimp only at hw
        rw [← hw]
        clear hw hu alt blt
        clear a0 a1 a2 a3 a4 a5 a6 b0 b1 b2 b3 b4 b5 b6
        have HGD6 : Hid (Glob w6.drew) := Lib.hid (HG6.out.next (bel_drew w6 1))
        have HKEEP : Hid (∀ wx, Below w6.drew.heap.size w6.drew wx → wx.cell? ⟨w.heap.size, 0, none⟩ = some (.int .i64 a.nodes) ∧ wx.cell? ⟨w.heap.size, 1, none⟩ = some (.int .i64 a.cores) ∧ wx.cell? ⟨w.heap.size, 2, none⟩ = some (.int .i64 a.gpus) ∧ wx.cell? ⟨w.heap.size, 3, none⟩ = some (.string a.tag) ∧ wx.cell? ⟨w.heap.size, 4, none⟩ = some (.bool a.whole) ∧ wx.cell? ⟨w.heap.size, 5, none⟩ = some (.int .i64 a.long) ∧ wx.cell? ⟨w.heap.size, 6, none⟩ = some (.int .i64 a.prio) ∧ wx.cell? ⟨w.heap.size + 1, 0, none⟩ = some (.int .i64 b.nodes) ∧ wx.cell? ⟨w.heap.size + 1, 1, none⟩ = some (.int .i64 b.cores) ∧ wx.cell? ⟨w.heap.size + 1, 2, none⟩ = some (.int .i64 b.gpus) ∧ wx.cell? ⟨w.heap.size + 1, 3, none⟩ = some (.string b.tag) ∧ wx.cell? ⟨w.heap.size + 1, 4, none⟩ = some (.bool b.whole) ∧ wx.cell? ⟨w.heap.size + 1, 5, none⟩ = some (.int .i64 b.long) ∧ wx.cell? ⟨w.heap.size + 1, 6, none⟩ = some (.int .i64 b.prio) ∧ wx.cell? ⟨w5.heap.size, 0, none⟩ = some (.int .i64 u.nodes) ∧ wx.cell? ⟨w5.heap.size, 1, none⟩ = some (.int .i64 u.cores) ∧ wx.cell? ⟨w5.heap.size, 2, none⟩ = some (.int .i64 u.gpus) ∧ wx.cell? ⟨w5.heap.size, 3, none⟩ = some (.string u.tag) ∧ wx.cell? ⟨w5.heap.size, 4, none⟩ = some (.bool u.whole) ∧ wx.cell? ⟨w5.heap.size, 5, none⟩ = some (.int .i64 u.long) ∧ wx.cell? ⟨w5.heap.size, 6, none⟩ = some (.int .i64 u.prio) ∧ wx.cell? ⟨w5.heap.size + 1, 0, none⟩ = some (.int .i64 u.nodes) ∧ wx.cell? ⟨w5.heap.size + 1, 1, none⟩ = some (.int .i64 u.cores) ∧ wx.cell? ⟨w5.heap.size + 1, 2, none⟩ = some (.int .i64 u.gpus) ∧ wx.cell? ⟨w5.heap.size + 1, 3, none⟩ = some (.string u.tag) ∧ wx.cell? ⟨w5.heap.size + 1, 4, none⟩ = some (.bool u.whole) ∧ wx.cell? ⟨w5.heap.size + 1, 5, none⟩ = some (.int .i64 u.long) ∧ wx.cell? ⟨w5.heap.size + 1, 6, none⟩ = some (.int .i64 u.prio)) := Lib.hid (fun wx hb => ⟨(((Ba6.out).next (bel_drew w6 1)).next hb).c0, (((Ba6.out).next (bel_drew w6 1)).next hb).c1, (((Ba6.out).next (bel_drew w6 1)).next hb).c2, (((Ba6.out).next (bel_drew w6 1)).next hb).c3, (((Ba6.out).next (bel_drew w6 1)).next hb).c4, (((Ba6.out).next (bel_drew w6 1)).next hb).c5, (((Ba6.out).next (bel_drew w6 1)).next hb).c6, (((Bb6.out).next (bel_drew w6 1)).next hb).c0, (((Bb6.out).next (bel_drew w6 1)).next hb).c1, (((Bb6.out).next (bel_drew w6 1)).next hb).c2, (((Bb6.out).next (bel_drew w6 1)).next hb).c3, (((Bb6.out).next (bel_drew w6 1)).next hb).c4, (((Bb6.out).next (bel_drew w6 1)).next hb).c5, (((Bb6.out).next (bel_drew w6 1)).next hb).c6, (((Bp6.out).next (bel_drew w6 1)).next hb).c0, (((Bp6.out).next (bel_drew w6 1)).next hb).c1, (((Bp6.out).next (bel_drew w6 1)).next hb).c2, (((Bp6.out).next (bel_drew w6 1)).next hb).c3, (((Bp6.out).next (bel_drew w6 1)).next hb).c4, (((Bp6.out).next (bel_drew w6 1)).next hb).c5, (((Bp6.out).next (bel_drew w6 1)).next hb).c6, (((Bq6.out).next (bel_drew w6 1)).next hb).c0, (((Bq6.out).next (bel_drew w6 1)).next hb).c1, (((Bq6.out).next (bel_drew w6 1)).next hb).c2, (((Bq6.out).next (bel_drew w6 1)).next hb).c3, (((Bq6.out).next (bel_drew w6 1)).next hb).c4, (((Bq6.out).next (bel_drew w6 1)).next hb).c5, (((Bq6.out).next (bel_drew w6 1)).next hb).c6⟩)
        go_region_held3 (fun w' => w'.cell? ⟨w.heap.size, 0, none⟩ = some (.int .i64 a.nodes) ∧ w'.cell? ⟨w.heap.size, 1, none⟩ = some (.int .i64 a.cores) ∧ w'.cell? ⟨w.heap.size, 2, none⟩ = some (.int .i64 a.gpus) ∧ w'.cell? ⟨w.heap.size, 3, none⟩ = some (.string a.tag) ∧ w'.cell? ⟨w.heap.size, 4, none⟩ = some (.bool a.whole) ∧ w'.cell? ⟨w.heap.size, 5, none⟩ = some (.int .i64 a.long) ∧ w'.cell? ⟨w.heap.size, 6, none⟩ = some (.int .i64 a.prio) ∧ w'.cell? ⟨w.heap.size + 1, 0, none⟩ = some (.int .i64 b.nodes) ∧ w'.cell? ⟨w.heap.size + 1, 1, none⟩ = some (.int .i64 b.cores) ∧ w'.cell? ⟨w.heap.size + 1, 2, none⟩ = some (.int .i64 b.gpus) ∧ w'.cell? ⟨w.heap.size + 1, 3, none⟩ = some (.string b.tag) ∧ w'.cell? ⟨w.heap.size + 1, 4, none⟩ = some (.bool b.whole) ∧ w'.cell? ⟨w.heap.size + 1, 5, none⟩ = some (.int .i64 b.long) ∧ w'.cell? ⟨w.heap.size + 1, 6, none⟩ = some (.int .i64 b.prio) ∧ w'.cell? ⟨w5.heap.size, 0, none⟩ = some (.int .i64 u.nodes) ∧ w'.cell? ⟨w5.heap.size, 1, none⟩ = some (.int .i64 u.cores) ∧ w'.cell? ⟨w5.heap.size, 2, none⟩ = some (.int .i64 u.gpus) ∧ w'.cell? ⟨w5.heap.size, 3, none⟩ = some (.string u.tag) ∧ w'.cell? ⟨w5.heap.size, 4, none⟩ = some (.bool u.whole) ∧ w'.cell? ⟨w5.heap.size, 5, none⟩ = some (.int .i64 u.long) ∧ w'.cell? ⟨w5.heap.size, 6, none⟩ = some (.int .i64 u.prio) ∧ w'.cell? ⟨w5.heap.size + 1, 0, none⟩ = some (.int .i64 u.nodes) ∧ w'.cell? ⟨w5.heap.size + 1, 1, none⟩ = some (.int .i64 u.cores) ∧ w'.cell? ⟨w5.heap.size + 1, 2, none⟩ = some (.int .i64 u.gpus) ∧ w'.cell? ⟨w5.heap.size + 1, 3, none⟩ = some (.string u.tag) ∧ w'.cell? ⟨w5.heap.size + 1, 4, none⟩ = some (.bool u.whole) ∧ w'.cell? ⟨w5.heap.size + 1, 5, none⟩ = some (.int .i64 u.long) ∧ w'.cell? ⟨w5.heap.size + 1, 6, none⟩ = some (.int .i64 u.prio))
          (first | exact HKEEP.out _ (Below.refl _ _) | go_keep | exact HKEEP.out _ HY7.out | exact HKEEP.out _ HY8.out | exact HKEEP.out _ HY9.out | exact HKEEP.out _ HY10.out | fail)
          (first | (go_at_call 12; (with_reducible refine (s7_ends (w := w6.drew) H Aa.out HGD6.out IF.out E1.out).mono ?_); rintro e w7 ⟨rfl, hb⟩; have HY7 := Lib.hid hb; have HG7 := Lib.hid (Glob.next HGD6.out hb); clear hb) | (go_at_call 13; (with_reducible refine (ref7_ends (w := w7) Aa.out IF.out E1.out).mono ?_); rintro e w8 ⟨rfl, hb⟩; have HY8 := Lib.hid (HY7.out.trans (hb.mono HY7.out.size)); have HG8 := Lib.hid (Glob.next HG7.out hb); clear hb) | (go_at_call 14; (with_reducible refine (s7_ahead (w := w8) H Aa.out HG8.out Ab.out E2.out).mono ?_); rintro e w9 ⟨rfl, hb⟩; have HY9 := Lib.hid (HY8.out.trans (hb.mono HY8.out.size)); have HG9 := Lib.hid (Glob.next HG8.out hb); clear hb) | (go_at_call 15; (with_reducible refine (ref7_ahead (w := w9) Aa.out Ab.out E2.out).mono ?_); rintro e w10 ⟨rfl, hb⟩; have HY10 := Lib.hid (HY9.out.trans (hb.mono HY9.out.size)); have HG10 := Lib.hid (Glob.next HG9.out hb); clear hb) | fail)
        have HX10 := Lib.hid (bel_und HY10.out)
        have HB10 := Lib.hid (HB6.out.trans (HX10.out.mono HB6.out.size))
        have Ba10 := Lib.hid (Ba6.out.next HX10.out)
        have Bb10 := Lib.hid (Bb6.out.next HX10.out)
        have Bp10 := Lib.hid (Bp6.out.next HX10.out)
        have Bq10 := Lib.hid (Bq6.out.next HX10.out)
        clear HKEEP
        go_wp2
        go_ret
        exact ⟨rfl, HB10.out⟩
      · have E4 := Lib.hid (parts_yes hr (by omega) hx1)
        have hxe : decide (a.nodes ≤ x) = false := by simpa using hx1
        have bx : 0 ≤ x ∧ x < a.nodes ∧ a.nodes ≤ 64 := by omega
        have BX := Lib.hid bx
        clear hr bs hx0 hx1 bx
        go_enter Try.func3, Try.ntmps3
        go_wp2_with fail
        rw [← hW]
        refine (awake7_any H _ HG0.out).mono ?_
        rintro e w1 ⟨rfl, hb⟩
        have HB1 := Lib.hid (HB0.out.trans (hb.mono HB0.out.size))
        have HG1 := Lib.hid (HG0.out.next hb)
        have Ba1 := Lib.hid (Ba0.out.next hb)
        have Bb1 := Lib.hid (Bb0.out.next hb)
        clear hb
        have a0 := Ba1.out.c0
        have a1 := Ba1.out.c1
        have a2 := Ba1.out.c2
        have a3 := Ba1.out.c3
        have a4 := Ba1.out.c4
        have a5 := Ba1.out.c5
        have a6 := Ba1.out.c6
        have b0 := Bb1.out.c0
        have b1 := Bb1.out.c1
        have b2 := Bb1.out.c2
        have b3 := Bb1.out.c3
        have b4 := Bb1.out.c4
        have b5 := Bb1.out.c5
        have b6 := Bb1.out.c6
        go_wp2_with fail
        refine (refRightS_b Aa.out Ra.out).mono ?_
        rintro e w2 ⟨rfl, hb⟩
        have HB2 := Lib.hid (HB1.out.trans (hb.mono HB1.out.size))
        have HG2 := Lib.hid (HG1.out.next hb)
        have Ba2 := Lib.hid (Ba1.out.next hb)
        have Bb2 := Lib.hid (Bb1.out.next hb)
        clear hb
        clear a0 a1 a2 a3 a4 a5 a6 b0 b1 b2 b3 b4 b5 b6
        have a0 := Ba2.out.c0
        have a1 := Ba2.out.c1
        have a2 := Ba2.out.c2
        have a3 := Ba2.out.c3
        have a4 := Ba2.out.c4
        have a5 := Ba2.out.c5
        have a6 := Ba2.out.c6
        have b0 := Bb2.out.c0
        have b1 := Bb2.out.c1
        have b2 := Bb2.out.c2
        have b3 := Bb2.out.c3
        have b4 := Bb2.out.c4
        have b5 := Bb2.out.c5
        have b6 := Bb2.out.c6
        go_wp2_with fail
        refine (s7_asks H Aa.out HG2.out E3.out).mono ?_
        rintro e w3 ⟨rfl, hb⟩
        have HB3 := Lib.hid (HB2.out.trans (hb.mono HB2.out.size))
        have HG3 := Lib.hid (HG2.out.next hb)
        have Ba3 := Lib.hid (Ba2.out.next hb)
        have Bb3 := Lib.hid (Bb2.out.next hb)
        clear hb
        clear a0 a1 a2 a3 a4 a5 a6 b0 b1 b2 b3 b4 b5 b6
        have a0 := Ba3.out.c0
        have a1 := Ba3.out.c1
        have a2 := Ba3.out.c2
        have a3 := Ba3.out.c3
        have a4 := Ba3.out.c4
        have a5 := Ba3.out.c5
        have a6 := Ba3.out.c6
        have b0 := Bb3.out.c0
        have b1 := Bb3.out.c1
        have b2 := Bb3.out.c2
        have b3 := Bb3.out.c3
        have b4 := Bb3.out.c4
        have b5 := Bb3.out.c5
        have b6 := Bb3.out.c6
        go_wp2_with fail
        refine (s7_right H Aa.out HG3.out Ra.out).mono ?_
        rintro e w4 ⟨rfl, hb⟩
        have HB4 := Lib.hid (HB3.out.trans (hb.mono HB3.out.size))
        have HG4 := Lib.hid (HG3.out.next hb)
        have Ba4 := Lib.hid (Ba3.out.next hb)
        have Bb4 := Lib.hid (Bb3.out.next hb)
        clear hb
        clear a0 a1 a2 a3 a4 a5 a6 b0 b1 b2 b3 b4 b5 b6
        obtain ⟨hc1, hg1, ⟨k1, k2⟩, ⟨k3, k4⟩, k5, k6⟩ := KK.out
        have a0 := Ba4.out.c0
        have a1 := Ba4.out.c1
        have a2 := Ba4.out.c2
        have a3 := Ba4.out.c3
        have a4 := Ba4.out.c4
        have a5 := Ba4.out.c5
        have a6 := Ba4.out.c6
        have b0 := Bb4.out.c0
        have b1 := Bb4.out.c1
        have b2 := Bb4.out.c2
        have b3 := Bb4.out.c3
        have b4 := Bb4.out.c4
        have b5 := Bb4.out.c5
        have b6 := Bb4.out.c6
        go_wp2_with fail
        clear hc1 hg1 k1 k2 k3 k4 k5 k6
        refine (s7_part H Aa.out HG4.out IX.out E4.out).mono ?_
        rintro e w5 ⟨rfl, hb⟩
        have HB5 := Lib.hid (HB4.out.trans (hb.mono HB4.out.size))
        have HG5 := Lib.hid (HG4.out.next hb)
        have Ba5 := Lib.hid (Ba4.out.next hb)
        have Bb5 := Lib.hid (Bb4.out.next hb)
        clear hb
        clear a0 a1 a2 a3 a4 a5 a6 b0 b1 b2 b3 b4 b5 b6
        obtain ⟨x0, x1, x2⟩ := BX.out
        have alt := Ba5.out.lt
        have blt := Bb5.out.lt
        have a0 := Ba5.out.c0
        have a1 := Ba5.out.c1
        have a2 := Ba5.out.c2
        have a3 := Ba5.out.c3
        have a4 := Ba5.out.c4
        have a5 := Ba5.out.c5
        have a6 := Ba5.out.c6
        have b0 := Bb5.out.c0
        have b1 := Bb5.out.c1
        have b2 := Bb5.out.c2
        have b3 := Bb5.out.c3
        have b4 := Bb5.out.c4
        have b5 := Bb5.out.c5
        have b6 := Bb5.out.c6
        go_wp2
        obtain ⟨u, hu⟩ : ∃ u : Sp, u = ⟨a.nodes - x, a.cores, a.gpus, a.tag, a.whole, a.long, a.prio⟩ := ⟨_, rfl⟩
        obtain ⟨w6, hw⟩ : ∃ w6, w6 = (w5.alloc (spO u)).alloc (spO u) := ⟨_, rfl⟩
        have HX6 : Hid (Below w5.heap.size w5 w6) := Lib.hid (by rw [hw]; exact (bel_box _).alloc (by simp) _)
        have HB6 := Lib.hid (HB5.out.trans (HX6.out.mono HB5.out.size))
        have HG6 := Lib.hid (HG5.out.next HX6.out)
        have Ba6 := Lib.hid (Ba5.out.next HX6.out)
        have Bb6 := Lib.hid (Bb5.out.next HX6.out)
        have Bp6 : Hid (BoxS w6 w5.heap.size u) := Lib.hid (by rw [hw]; exact (box_new w5 u).alloc _)
        have Bq6 : Hid (BoxS w6 (w5.heap.size + 1) u) := Lib.hid (by rw [hw]; have h := box_new (w5.alloc (spO u)) u; simpa using h)
        rw [hu] at hw
        unfold spO at hw
        dsimp only at hw
        rw [← hw]
        clear hw hu alt blt
        clear a0 a1 a2 a3 a4 a5 a6 b0 b1 b2 b3 b4 b5 b6
        have HGD6 : Hid (Glob w6.drew) := Lib.hid (HG6.out.next (bel_drew w6 1))
        have HKEEP : Hid (∀ wx, Below w6.drew.heap.size w6.drew wx → wx.cell? ⟨w.heap.size, 0, none⟩ = some (.int .i64 a.nodes) ∧ wx.cell? ⟨w.heap.size, 1, none⟩ = some (.int .i64 a.cores) ∧ wx.cell? ⟨w.heap.size, 2, none⟩ = some (.int .i64 a.gpus) ∧ wx.cell? ⟨w.heap.size, 3, none⟩ = some (.string a.tag) ∧ wx.cell? ⟨w.heap.size, 4, none⟩ = some (.bool a.whole) ∧ wx.cell? ⟨w.heap.size, 5, none⟩ = some (.int .i64 a.long) ∧ wx.cell? ⟨w.heap.size, 6, none⟩ = some (.int .i64 a.prio) ∧ wx.cell? ⟨w.heap.size + 1, 0, none⟩ = some (.int .i64 b.nodes) ∧ wx.cell? ⟨w.heap.size + 1, 1, none⟩ = some (.int .i64 b.cores) ∧ wx.cell? ⟨w.heap.size + 1, 2, none⟩ = some (.int .i64 b.gpus) ∧ wx.cell? ⟨w.heap.size + 1, 3, none⟩ = some (.string b.tag) ∧ wx.cell? ⟨w.heap.size + 1, 4, none⟩ = some (.bool b.whole) ∧ wx.cell? ⟨w.heap.size + 1, 5, none⟩ = some (.int .i64 b.long) ∧ wx.cell? ⟨w.heap.size + 1, 6, none⟩ = some (.int .i64 b.prio) ∧ wx.cell? ⟨w5.heap.size, 0, none⟩ = some (.int .i64 u.nodes) ∧ wx.cell? ⟨w5.heap.size, 1, none⟩ = some (.int .i64 u.cores) ∧ wx.cell? ⟨w5.heap.size, 2, none⟩ = some (.int .i64 u.gpus) ∧ wx.cell? ⟨w5.heap.size, 3, none⟩ = some (.string u.tag) ∧ wx.cell? ⟨w5.heap.size, 4, none⟩ = some (.bool u.whole) ∧ wx.cell? ⟨w5.heap.size, 5, none⟩ = some (.int .i64 u.long) ∧ wx.cell? ⟨w5.heap.size, 6, none⟩ = some (.int .i64 u.prio) ∧ wx.cell? ⟨w5.heap.size + 1, 0, none⟩ = some (.int .i64 u.nodes) ∧ wx.cell? ⟨w5.heap.size + 1, 1, none⟩ = some (.int .i64 u.cores) ∧ wx.cell? ⟨w5.heap.size + 1, 2, none⟩ = some (.int .i64 u.gpus) ∧ wx.cell? ⟨w5.heap.size + 1, 3, none⟩ = some (.string u.tag) ∧ wx.cell? ⟨w5.heap.size + 1, 4, none⟩ = some (.bool u.whole) ∧ wx.cell? ⟨w5.heap.size + 1, 5, none⟩ = some (.int .i64 u.long) ∧ wx.cell? ⟨w5.heap.size + 1, 6, none⟩ = some (.int .i64 u.prio)) := Lib.hid (fun wx hb => ⟨(((Ba6.out).next (bel_drew w6 1)).next hb).c0, (((Ba6.out).next (bel_drew w6 1)).next hb).c1, (((Ba6.out).next (bel_drew w6 1)).next hb).c2, (((Ba6.out).next (bel_drew w6 1)).next hb).c3, (((Ba6.out).next (bel_drew w6 1)).next hb).c4, (((Ba6.out).next (bel_drew w6 1)).next hb).c5, (((Ba6.out).next (bel_drew w6 1)).next hb).c6, (((Bb6.out).next (bel_drew w6 1)).next hb).c0, (((Bb6.out).next (bel_drew w6 1)).next hb).c1, (((Bb6.out).next (bel_drew w6 1)).next hb).c2, (((Bb6.out).next (bel_drew w6 1)).next hb).c3, (((Bb6.out).next (bel_drew w6 1)).next hb).c4, (((Bb6.out).next (bel_drew w6 1)).next hb).c5, (((Bb6.out).next (bel_drew w6 1)).next hb).c6, (((Bp6.out).next (bel_drew w6 1)).next hb).c0, (((Bp6.out).next (bel_drew w6 1)).next hb).c1, (((Bp6.out).next (bel_drew w6 1)).next hb).c2, (((Bp6.out).next (bel_drew w6 1)).next hb).c3, (((Bp6.out).next (bel_drew w6 1)).next hb).c4, (((Bp6.out).next (bel_drew w6 1)).next hb).c5, (((Bp6.out).next (bel_drew w6 1)).next hb).c6, (((Bq6.out).next (bel_drew w6 1)).next hb).c0, (((Bq6.out).next (bel_drew w6 1)).next hb).c1, (((Bq6.out).next (bel_drew w6 1)).next hb).c2, (((Bq6.out).next (bel_drew w6 1)).next hb).c3, (((Bq6.out).next (bel_drew w6 1)).next hb).c4, (((Bq6.out).next (bel_drew w6 1)).next hb).c5, (((Bq6.out).next (bel_drew w6 1)).next hb).c6⟩)
        go_region_held3 (fun w' => w'.cell? ⟨w.heap.size, 0, none⟩ = some (.int .i64 a.nodes) ∧ w'.cell? ⟨w.heap.size, 1, none⟩ = some (.int .i64 a.cores) ∧ w'.cell? ⟨w.heap.size, 2, none⟩ = some (.int .i64 a.gpus) ∧ w'.cell? ⟨w.heap.size, 3, none⟩ = some (.string a.tag) ∧ w'.cell? ⟨w.heap.size, 4, none⟩ = some (.bool a.whole) ∧ w'.cell? ⟨w.heap.size, 5, none⟩ = some (.int .i64 a.long) ∧ w'.cell? ⟨w.heap.size, 6, none⟩ = some (.int .i64 a.prio) ∧ w'.cell? ⟨w.heap.size + 1, 0, none⟩ = some (.int .i64 b.nodes) ∧ w'.cell? ⟨w.heap.size + 1, 1, none⟩ = some (.int .i64 b.cores) ∧ w'.cell? ⟨w.heap.size + 1, 2, none⟩ = some (.int .i64 b.gpus) ∧ w'.cell? ⟨w.heap.size + 1, 3, none⟩ = some (.string b.tag) ∧ w'.cell? ⟨w.heap.size + 1, 4, none⟩ = some (.bool b.whole) ∧ w'.cell? ⟨w.heap.size + 1, 5, none⟩ = some (.int .i64 b.long) ∧ w'.cell? ⟨w.heap.size + 1, 6, none⟩ = some (.int .i64 b.prio) ∧ w'.cell? ⟨w5.heap.size, 0, none⟩ = some (.int .i64 u.nodes) ∧ w'.cell? ⟨w5.heap.size, 1, none⟩ = some (.int .i64 u.cores) ∧ w'.cell? ⟨w5.heap.size, 2, none⟩ = some (.int .i64 u.gpus) ∧ w'.cell? ⟨w5.heap.size, 3, none⟩ = some (.string u.tag) ∧ w'.cell? ⟨w5.heap.size, 4, none⟩ = some (.bool u.whole) ∧ w'.cell? ⟨w5.heap.size, 5, none⟩ = some (.int .i64 u.long) ∧ w'.cell? ⟨w5.heap.size, 6, none⟩ = some (.int .i64 u.prio) ∧ w'.cell? ⟨w5.heap.size + 1, 0, none⟩ = some (.int .i64 u.nodes) ∧ w'.cell? ⟨w5.heap.size + 1, 1, none⟩ = some (.int .i64 u.cores) ∧ w'.cell? ⟨w5.heap.size + 1, 2, none⟩ = some (.int .i64 u.gpus) ∧ w'.cell? ⟨w5.heap.size + 1, 3, none⟩ = some (.string u.tag) ∧ w'.cell? ⟨w5.heap.size + 1, 4, none⟩ = some (.bool u.whole) ∧ w'.cell? ⟨w5.heap.size + 1, 5, none⟩ = some (.int .i64 u.long) ∧ w'.cell? ⟨w5.heap.size + 1, 6, none⟩ = some (.int .i64 u.prio))
          (first | exact HKEEP.out _ (Below.refl _ _) | go_keep | exact HKEEP.out _ HY7.out | exact HKEEP.out _ HY8.out | exact HKEEP.out _ HY9.out | exact HKEEP.out _ HY10.out | fail)
          (first | (go_at_call 12; (with_reducible refine (s7_ends (w := w6.drew) H Aa.out HGD6.out IF.out E1.out).mono ?_); rintro e w7 ⟨rfl, hb⟩; have HY7 := Lib.hid hb; have HG7 := Lib.hid (Glob.next HGD6.out hb); clear hb) | (go_at_call 13; (with_reducible refine (ref7_ends (w := w7) Aa.out IF.out E1.out).mono ?_); rintro e w8 ⟨rfl, hb⟩; have HY8 := Lib.hid (HY7.out.trans (hb.mono HY7.out.size)); have HG8 := Lib.hid (Glob.next HG7.out hb); clear hb) | (go_at_call 14; (with_reducible refine (s7_ahead (w := w8) H Aa.out HG8.out Ab.out E2.out).mono ?_); rintro e w9 ⟨rfl, hb⟩; have HY9 := Lib.hid (HY8.out.trans (hb.mono HY8.out.size)); have HG9 := Lib.hid (Glob.next HG8.out hb); clear hb) | (go_at_call 15; (with_reducible refine (ref7_ahead (w := w9) Aa.out Ab.out E2.out).mono ?_); rintro e w10 ⟨rfl, hb⟩; have HY10 := Lib.hid (HY9.out.trans (hb.mono HY9.out.size)); have HG10 := Lib.hid (Glob.next HG9.out hb); clear hb) | fail)
        have HX10 := Lib.hid (bel_und HY10.out)
        have HB10 := Lib.hid (HB6.out.trans (HX10.out.mono HB6.out.size))
        have Ba10 := Lib.hid (Ba6.out.next HX10.out)
        have Bb10 := Lib.hid (Bb6.out.next HX10.out)
        have Bp10 := Lib.hid (Bp6.out.next HX10.out)
        have Bq10 := Lib.hid (Bq6.out.next HX10.out)
        clear HKEEP
        go_wp2
        go_ret
        exact ⟨rfl, HB10.out⟩

end Go.Proofs.Ytggfacginheapaa
