/- The program's functions of layer 7 (spec): Asks, Ends, Ahead, Part, and the list of contracts that the statements' walks lean on, held. Written by gen/gen_specpok.py. -/
import Derived.Test.YtggfacginheapaaSpecPRight
import Derived.Test.YtggfacginheapaaSetMem
import Derived.Test.YtggfacginheapaaSpecAhead
import Derived.Test.YtggfacginheapaaSpecLParts
import Derived.Test.YtggfacginheapaaSpecLRight
import Derived.OwnWalk
namespace Go.Proofs.Ytggfacginheapaa
open Go.RowKit

/-- one block laid: the spec that came in -/
theorem box_in {w W : World} {s : Sp} (hW : W = w.alloc (spO s)) : BoxS W w.heap.size s ∧ Below w.heap.size w W := by
  subst hW
  exact ⟨box_new w s, (Below.refl _ _).alloc (Nat.le_refl _) _⟩

set_option maxRecDepth 100000 in
set_option maxHeartbeats 2000000 in
theorem specAsks_any (s : Sp) (w : World) (hs : SAsk s) :
    Calls Try.prog 9 #[.agg #[.int .i64 s.nodes, .int .i64 s.cores, .int .i64 s.gpus, .string s.tag, .bool s.whole, .int .i64 s.long, .int .i64 s.prio]] w fun e w' => e = .returned (.tuple #[.int .i64 (asksS s).1, .int .i64 (asksS s).2.1, .int .i64 (asksS s).2.2]) ∧ Below w.heap.size w w' := by
  have HS := Lib.hid hs
  obtain ⟨W, hW⟩ : ∃ W, W = w.alloc (spO s) := ⟨_, rfl⟩
  have BX := Lib.hid (box_in hW).1
  have BW := Lib.hid (box_in hW).2
  unfold spO at hW
  clear hs
  cases hr : rightS s with
  | false =>
    rw [asks_wrong hr]
    have HR := Lib.hid hr
    clear hr
    go_enter Try.func9, Try.ntmps9
    go_wp2_with fail
    rw [← hW]
    refine (specRight_b HS.out HR.out).mono ?_
    rintro e w1 ⟨rfl, hb⟩
    have HB1 := Lib.hid (BW.out.trans (hb.mono BW.out.size))
    have BX1 := Lib.hid (BX.out.next hb)
    clear hb
    go_wp2
    go_ret3
    exact ⟨rfl, HB1.out⟩
  | true =>
    rw [asks_right hr]
    have HR := Lib.hid hr
    have bx := rightS_is hr
    have m1 := mul_bounds (x := s.nodes) (y := s.cores) (by omega) bx.2.1.2 bx.2.2.1.1 bx.2.2.1.2
    have m2 := mul_bounds (x := s.nodes) (y := s.gpus) (by omega) bx.2.1.2 bx.2.2.2.1.1 bx.2.2.2.1.2
    have v1 : IntKind.i64.wrap (s.nodes * s.cores) = s.nodes * s.cores := IntWalk.i64_in _ (by omega)
    have v2 : IntKind.i64.wrap (s.nodes * s.gpus) = s.nodes * s.gpus := IntWalk.i64_in _ (by omega)
    clear bx m1 m2 hr
    go_enter Try.func9, Try.ntmps9
    go_wp2_with fail
    rw [← hW]
    refine (specRight_b HS.out HR.out).mono ?_
    rintro e w1 ⟨rfl, hb⟩
    have HB1 := Lib.hid (BW.out.trans (hb.mono BW.out.size))
    have BX1 := Lib.hid (BX.out.next hb)
    clear hb
    have c0 := BX1.out.c0
    have c1 := BX1.out.c1
    have c2 := BX1.out.c2
    have c3 := BX1.out.c3
    have c4 := BX1.out.c4
    have c5 := BX1.out.c5
    have c6 := BX1.out.c6
    go_wp2
    go_quiet (fail)
    go_wp2
    go_ret3
    exact ⟨rfl, HB1.out.trans ((bel_drew w1 _).mono HB1.out.size)⟩

set_option maxRecDepth 100000 in
set_option maxHeartbeats 2000000 in
theorem specParts_any (s : Sp) (w : World) (hs : SAsk s) (hr : rightS s = true) :
    Calls Try.prog 24 #[.agg #[.int .i64 s.nodes, .int .i64 s.cores, .int .i64 s.gpus, .string s.tag, .bool s.whole, .int .i64 s.long, .int .i64 s.prio]] w fun e w' => e = .returned (.int .i64 (sizeS s)) ∧ Below w.heap.size w w' := by
  have HS := Lib.hid hs
  obtain ⟨W, hW⟩ : ∃ W, W = w.alloc (spO s) := ⟨_, rfl⟩
  have BX := Lib.hid (box_in hW).1
  have BW := Lib.hid (box_in hW).2
  unfold spO at hW
  clear hs
  have bx := rightS_is hr
  have m1 := mul_bounds (x := s.nodes) (y := s.cores) (by omega) bx.2.1.2 bx.2.2.1.1 bx.2.2.1.2
  have m2 := mul_bounds (x := s.nodes) (y := s.gpus) (by omega) bx.2.1.2 bx.2.2.2.1.1 bx.2.2.2.1.2
  have v5 : IntKind.i64.wrap (s.nodes * s.cores + s.nodes * s.gpus) = s.nodes * s.cores + s.nodes * s.gpus := IntWalk.i64_in _ (by omega)
  have HA := Lib.hid (asks_right hr)
  clear bx m1 m2 hr
  go_enter Try.func24, Try.ntmps24
  go_wp2_with fail
  rw [← hW]
  refine (specAsks_any s W HS.out).mono ?_
  rintro e w1 ⟨rfl, hb⟩
  rw [HA.out]
  have HB1 := Lib.hid (BW.out.trans (hb.mono BW.out.size))
  clear hb
  go_wp2
  go_ret
  exact ⟨rfl, HB1.out⟩

set_option maxRecDepth 100000 in
set_option maxHeartbeats 2000000 in
theorem specEnds_any (s : Sp) (a : Int) (w : World) (hs : SAsk s) :
    Calls Try.prog 12 #[.agg #[.int .i64 s.nodes, .int .i64 s.cores, .int .i64 s.gpus, .string s.tag, .bool s.whole, .int .i64 s.long, .int .i64 s.prio], .int .i64 a] w fun e w' => e = .returned (.int .i64 (endsS s a)) ∧ Below w.heap.size w w' := by
  have HS := Lib.hid hs
  obtain ⟨W, hW⟩ : ∃ W, W = w.alloc (spO s) := ⟨_, rfl⟩
  have BX := Lib.hid (box_in hW).1
  have BW := Lib.hid (box_in hW).2
  unfold spO at hW
  clear hs
  cases hr : rightS s with
  | false =>
    have e0 : endsS s a = plusZ a 0 := by unfold endsS; rw [if_neg (by rw [hr]; simp)]
    rw [e0]
    have HR := Lib.hid hr
    clear hr e0
    go_enter Try.func12, Try.ntmps12
    go_wp2_with fail
    rw [← hW]
    refine (specRight_b HS.out HR.out).mono ?_
    rintro e w1 ⟨rfl, hb⟩
    have HB1 := Lib.hid (BW.out.trans (hb.mono BW.out.size))
    have BX1 := Lib.hid (BX.out.next hb)
    clear hb
    go_wp2_with fail
    refine (whenPlus_any _ _ _).mono ?_
    rintro e w2 ⟨rfl, rfl⟩
    go_wp2
    go_ret
    exact ⟨rfl, HB1.out⟩
  | true =>
    have e0 : endsS s a = plusZ a s.long := by unfold endsS; rw [if_pos hr]
    rw [e0]
    have HR := Lib.hid hr
    clear hr e0
    go_enter Try.func12, Try.ntmps12
    go_wp2_with fail
    rw [← hW]
    refine (specRight_b HS.out HR.out).mono ?_
    rintro e w1 ⟨rfl, hb⟩
    have HB1 := Lib.hid (BW.out.trans (hb.mono BW.out.size))
    have BX1 := Lib.hid (BX.out.next hb)
    clear hb
    have c0 := BX1.out.c0
    have c1 := BX1.out.c1
    have c2 := BX1.out.c2
    have c3 := BX1.out.c3
    have c4 := BX1.out.c4
    have c5 := BX1.out.c5
    have c6 := BX1.out.c6
    go_wp2_with fail
    refine (whenPlus_any _ _ _).mono ?_
    rintro e w2 ⟨rfl, rfl⟩
    go_wp2
    go_ret
    exact ⟨rfl, HB1.out⟩

def cmpZ (x y : Int) : Int := if x < y then -1 else if y < x then 1 else 0
def orZ (x y z : Int) : Int := if x ≠ 0 then x else if y ≠ 0 then y else z
theorem nan_cmpI (x : Int) (w : World) : Calls Try.prog 28 #[.int .i64 x] w fun e w' => e = .returned (.bool false) ∧ w = w' := by
  have h : (x != x) = false := by simp
  go_enter Try.func28, Try.ntmps28
  go_wp2
  go_ret
  exact ⟨rfl, rfl⟩
theorem cmpI_any (x y : Int) (w : World) : Calls Try.prog 23 #[.int .i64 x, .int .i64 y] w fun e w' => e = .returned (.int .i64 (cmpZ x y)) ∧ w = w' := by
  by_cases h1 : x < y
  · have e1 : cmpZ x y = -1 := by unfold cmpZ; rw [if_pos h1]
    have d1 : decide (x < y) = true := decide_eq_true h1
    rw [e1]
    clear e1 h1
    go_enter Try.func23, Try.ntmps23
    go_wp2_with fail
    refine (nan_cmpI _ _).mono ?_
    rintro e w1 ⟨rfl, rfl⟩
    go_wp2_with fail
    refine (nan_cmpI _ _).mono ?_
    rintro e w1 ⟨rfl, rfl⟩
    go_wp2
    go_ret
    exact ⟨rfl, rfl⟩
  · have d1 : decide (x < y) = false := decide_eq_false h1
    by_cases h2 : y < x
    · have e1 : cmpZ x y = 1 := by unfold cmpZ; rw [if_neg h1, if_pos h2]
      have d2 : decide (y < x) = true := decide_eq_true h2
      rw [e1]
      clear e1 h1 h2
      go_enter Try.func23, Try.ntmps23
      go_wp2_with fail
      refine (nan_cmpI _ _).mono ?_
      rintro e w1 ⟨rfl, rfl⟩
      go_wp2_with fail
      refine (nan_cmpI _ _).mono ?_
      rintro e w1 ⟨rfl, rfl⟩
      go_wp2
      go_ret
      exact ⟨rfl, rfl⟩
    · have e1 : cmpZ x y = 0 := by unfold cmpZ; rw [if_neg h1, if_neg h2]
      have d2 : decide (y < x) = false := decide_eq_false h2
      rw [e1]
      clear e1 h1 h2
      go_enter Try.func23, Try.ntmps23
      go_wp2_with fail
      refine (nan_cmpI _ _).mono ?_
      rintro e w1 ⟨rfl, rfl⟩
      go_wp2_with fail
      refine (nan_cmpI _ _).mono ?_
      rintro e w1 ⟨rfl, rfl⟩
      go_wp2
      go_ret
      exact ⟨rfl, rfl⟩
theorem nan_cmpL (x : Int) (w : World) : Calls Try.prog 29 #[.int .i64 x] w fun e w' => e = .returned (.bool false) ∧ w = w' := by
  have h : (x != x) = false := by simp
  go_enter Try.func29, Try.ntmps29
  go_wp2
  go_ret
  exact ⟨rfl, rfl⟩
theorem cmpL_any (x y : Int) (w : World) : Calls Try.prog 25 #[.int .i64 x, .int .i64 y] w fun e w' => e = .returned (.int .i64 (cmpZ x y)) ∧ w = w' := by
  by_cases h1 : x < y
  · have e1 : cmpZ x y = -1 := by unfold cmpZ; rw [if_pos h1]
    have d1 : decide (x < y) = true := decide_eq_true h1
    rw [e1]
    clear e1 h1
    go_enter Try.func25, Try.ntmps25
    go_wp2_with fail
    refine (nan_cmpL _ _).mono ?_
    rintro e w1 ⟨rfl, rfl⟩
    go_wp2_with fail
    refine (nan_cmpL _ _).mono ?_
    rintro e w1 ⟨rfl, rfl⟩
    go_wp2
    go_ret
    exact ⟨rfl, rfl⟩
  · have d1 : decide (x < y) = false := decide_eq_false h1
    by_cases h2 : y < x
    · have e1 : cmpZ x y = 1 := by unfold cmpZ; rw [if_neg h1, if_pos h2]
      have d2 : decide (y < x) = true := decide_eq_true h2
      rw [e1]
      clear e1 h1 h2
      go_enter Try.func25, Try.ntmps25
      go_wp2_with fail
      refine (nan_cmpL _ _).mono ?_
      rintro e w1 ⟨rfl, rfl⟩
      go_wp2_with fail
      refine (nan_cmpL _ _).mono ?_
      rintro e w1 ⟨rfl, rfl⟩
      go_wp2
      go_ret
      exact ⟨rfl, rfl⟩
    · have e1 : cmpZ x y = 0 := by unfold cmpZ; rw [if_neg h1, if_neg h2]
      have d2 : decide (y < x) = false := decide_eq_false h2
      rw [e1]
      clear e1 h1 h2
      go_enter Try.func25, Try.ntmps25
      go_wp2_with fail
      refine (nan_cmpL _ _).mono ?_
      rintro e w1 ⟨rfl, rfl⟩
      go_wp2_with fail
      refine (nan_cmpL _ _).mono ?_
      rintro e w1 ⟨rfl, rfl⟩
      go_wp2
      go_ret
      exact ⟨rfl, rfl⟩

set_option maxRecDepth 100000 in
set_option maxHeartbeats 1000000 in
theorem cmpOr_any (x y z : Int) (w : World) (g : Nat) (h0 : w.cell? ⟨g, 0, none⟩ = some (.int .i64 x)) (h1 : w.cell? ⟨g, 1, none⟩ = some (.int .i64 y)) (h2 : w.cell? ⟨g, 2, none⟩ = some (.int .i64 z)) (c : Nat) :
    Calls Try.prog 22 #[.slice (some ⟨g, 0, none⟩) 3 c] w fun e w' => e = .returned (.int .i64 (orZ x y z)) ∧ w = w' := by
  by_cases hx : x = 0
  · have dx : (x != 0) = false := by simpa using hx
    by_cases hy : y = 0
    · have dy : (y != 0) = false := by simpa using hy
      by_cases hz : z = 0
      · have dz : (z != 0) = false := by simpa using hz
        have e1 : orZ x y z = 0 := by unfold orZ; rw [if_neg (by simpa using hx), if_neg (by simpa using hy), hz]
        rw [e1]
        clear e1 hx hy hz
        go_enter Try.func22, Try.ntmps22
        go_wp2
        refine wp_loop_rounds 5 ?_
        rw [rounds_succ]
        go_wp2
        rw [rounds_succ]
        go_wp2
        rw [rounds_succ]
        go_wp2
        rw [rounds_succ]
        go_wp2
        go_ret
        exact ⟨rfl, rfl⟩
      · have dz : (z != 0) = true := by simpa using hz
        have e1 : orZ x y z = z := by unfold orZ; rw [if_neg (by simpa using hx), if_neg (by simpa using hy)]
        rw [e1]
        clear e1 hx hy hz
        go_enter Try.func22, Try.ntmps22
        go_wp2
        refine wp_loop_rounds 5 ?_
        rw [rounds_succ]
        go_wp2
        rw [rounds_succ]
        go_wp2
        rw [rounds_succ]
        go_wp2
        go_ret
        exact ⟨rfl, rfl⟩
    · have dy : (y != 0) = true := by simpa using hy
      have e1 : orZ x y z = y := by unfold orZ; rw [if_neg (by simpa using hx), if_pos hy]
      rw [e1]
      clear e1 hx hy
      go_enter Try.func22, Try.ntmps22
      go_wp2
      refine wp_loop_rounds 5 ?_
      rw [rounds_succ]
      go_wp2
      rw [rounds_succ]
      go_wp2
      go_ret
      exact ⟨rfl, rfl⟩
  · have dx : (x != 0) = true := by simpa using hx
    have e1 : orZ x y z = x := by unfold orZ; rw [if_pos hx]
    rw [e1]
    clear e1 hx
    go_enter Try.func22, Try.ntmps22
    go_wp2
    refine wp_loop_rounds 5 ?_
    rw [rounds_succ]
    go_wp2
    go_ret
    exact ⟨rfl, rfl⟩
theorem cmpOr_lit (x y z : Int) (w : World) (c : Nat) (t : TypeId) :
    Calls Try.prog 22 #[.slice (some ⟨w.heap.size, 0, none⟩) 3 c] (w.alloc (.cells #[.int .i64 x, .int .i64 y, .int .i64 z] t)) fun e w' => e = .returned (.int .i64 (orZ x y z)) ∧ w.alloc (.cells #[.int .i64 x, .int .i64 y, .int .i64 z] t) = w' :=
  cmpOr_any x y z _ _ (World.cell?_alloc_at _ _ _ _ rfl) (World.cell?_alloc_at _ _ _ _ rfl) (World.cell?_alloc_at _ _ _ _ rfl) c

theorem ahead_or {x y : Sp} (h : rightS x = true) (h2 : rightS y = true) : aheadS x y = decide (orZ (cmpZ y.prio x.prio) (cmpZ (sizeS x) (sizeS y)) (cmpZ x.long y.long) < 0) := by
  rw [Bool.eq_iff_iff, aheadS_iff, decide_eq_true_eq]
  simp only [h, h2, true_and]
  unfold orZ cmpZ
  repeat' split
  all_goals omega

set_option maxRecDepth 100000 in
set_option maxHeartbeats 4000000 in
theorem specAhead_any (x y : Sp) (w : World) (hx : SAsk x) (hy : SAsk y) :
    Calls Try.prog 14 #[.agg #[.int .i64 x.nodes, .int .i64 x.cores, .int .i64 x.gpus, .string x.tag, .bool x.whole, .int .i64 x.long, .int .i64 x.prio], .agg #[.int .i64 y.nodes, .int .i64 y.cores, .int .i64 y.gpus, .string y.tag, .bool y.whole, .int .i64 y.long, .int .i64 y.prio]] w fun e w' => e = .returned (.bool (aheadS x y)) ∧ Below w.heap.size w w' := by
  have HX := Lib.hid hx
  have HY := Lib.hid hy
  obtain ⟨W, hW⟩ : ∃ W, W = (w.alloc (spO x)).alloc (spO y) := ⟨_, rfl⟩
  have BX : Hid (BoxS W w.heap.size x) := Lib.hid (by rw [hW]; exact (box_new w x).alloc _)
  have BY : Hid (BoxS W (w.heap.size + 1) y) := Lib.hid (by rw [hW]; have := box_new (w.alloc (spO x)) y; simpa using this)
  have BW : Hid (Below w.heap.size w W) := Lib.hid (by rw [hW]; exact ((Below.refl _ _).alloc (Nat.le_refl _) _).alloc (by simp) _)
  unfold spO at hW
  clear hx hy
  cases hrx : rightS x with
  | false =>
    rw [ahead_first hrx]
    have HRX := Lib.hid hrx
    clear hrx
    go_enter Try.func14, Try.ntmps14
    go_wp2_with fail
    rw [← hW]
    refine (specRight_b HX.out HRX.out).mono ?_
    rintro e w1 ⟨rfl, hb⟩
    have HB1 := Lib.hid (BW.out.trans (hb.mono BW.out.size))
    clear hb
    go_wp2
    go_ret
    exact ⟨rfl, HB1.out⟩
  | true =>
    have HRX := Lib.hid hrx
    cases hry : rightS y with
    | false =>
      rw [ahead_second hry]
      have HRY := Lib.hid hry
      clear hrx hry
      go_enter Try.func14, Try.ntmps14
      go_wp2_with fail
      rw [← hW]
      refine (specRight_b HX.out HRX.out).mono ?_
      rintro e w1 ⟨rfl, hb⟩
      have HB1 := Lib.hid (BW.out.trans (hb.mono BW.out.size))
      have BY1 := Lib.hid (BY.out.next hb)
      clear hb
      have c0 := BY1.out.c0
      have c1 := BY1.out.c1
      have c2 := BY1.out.c2
      have c3 := BY1.out.c3
      have c4 := BY1.out.c4
      have c5 := BY1.out.c5
      have c6 := BY1.out.c6
      go_wp2_with fail
      refine (specRight_b HY.out HRY.out).mono ?_
      rintro e w2 ⟨rfl, hb⟩
      have HB2 := Lib.hid (HB1.out.trans (hb.mono HB1.out.size))
      clear hb
      clear c0 c1 c2 c3 c4 c5 c6
      go_wp2
      go_ret
      exact ⟨rfl, HB2.out⟩
    | true =>
      rw [ahead_or hrx hry]
      have HRY := Lib.hid hry
      clear hrx hry
      go_enter Try.func14, Try.ntmps14
      go_wp2_with fail
      rw [← hW]
      refine (specRight_b HX.out HRX.out).mono ?_
      rintro e w1 ⟨rfl, hb⟩
      have HB1 := Lib.hid (BW.out.trans (hb.mono BW.out.size))
      have BX1 := Lib.hid (BX.out.next hb)
      have BY1 := Lib.hid (BY.out.next hb)
      clear hb
      have d0 := BY1.out.c0
      have d1 := BY1.out.c1
      have d2 := BY1.out.c2
      have d3 := BY1.out.c3
      have d4 := BY1.out.c4
      have d5 := BY1.out.c5
      have d6 := BY1.out.c6
      go_wp2_with fail
      refine (specRight_b HY.out HRY.out).mono ?_
      rintro e w2 ⟨rfl, hb⟩
      have HB2 := Lib.hid (HB1.out.trans (hb.mono HB1.out.size))
      have BX2 := Lib.hid (BX1.out.next hb)
      have BY2 := Lib.hid (BY1.out.next hb)
      clear hb
      clear d0 d1 d2 d3 d4 d5 d6
      have c0 := BX2.out.c0
      have c1 := BX2.out.c1
      have c2 := BX2.out.c2
      have c3 := BX2.out.c3
      have c4 := BX2.out.c4
      have c5 := BX2.out.c5
      have c6 := BX2.out.c6
      have d0 := BY2.out.c0
      have d1 := BY2.out.c1
      have d2 := BY2.out.c2
      have d3 := BY2.out.c3
      have d4 := BY2.out.c4
      have d5 := BY2.out.c5
      have d6 := BY2.out.c6
      go_wp2
      have HKEEP : Hid (∀ WX, Below w2.drew.heap.size w2.drew WX → WX.cell? ⟨w.heap.size, 0, none⟩ = some (.int .i64 x.nodes) ∧ WX.cell? ⟨w.heap.size, 1, none⟩ = some (.int .i64 x.cores) ∧ WX.cell? ⟨w.heap.size, 2, none⟩ = some (.int .i64 x.gpus) ∧ WX.cell? ⟨w.heap.size, 3, none⟩ = some (.string x.tag) ∧ WX.cell? ⟨w.heap.size, 4, none⟩ = some (.bool x.whole) ∧ WX.cell? ⟨w.heap.size, 5, none⟩ = some (.int .i64 x.long) ∧ WX.cell? ⟨w.heap.size, 6, none⟩ = some (.int .i64 x.prio) ∧ WX.cell? ⟨w.heap.size + 1, 0, none⟩ = some (.int .i64 y.nodes) ∧ WX.cell? ⟨w.heap.size + 1, 1, none⟩ = some (.int .i64 y.cores) ∧ WX.cell? ⟨w.heap.size + 1, 2, none⟩ = some (.int .i64 y.gpus) ∧ WX.cell? ⟨w.heap.size + 1, 3, none⟩ = some (.string y.tag) ∧ WX.cell? ⟨w.heap.size + 1, 4, none⟩ = some (.bool y.whole) ∧ WX.cell? ⟨w.heap.size + 1, 5, none⟩ = some (.int .i64 y.long) ∧ WX.cell? ⟨w.heap.size + 1, 6, none⟩ = some (.int .i64 y.prio)) := Lib.hid (fun WX hz => by
        have q1 := (BX2.out.drewN 1).next hz
        have q2 := (BY2.out.drewN 1).next hz
        exact ⟨q1.c0, q1.c1, q1.c2, q1.c3, q1.c4, q1.c5, q1.c6, q2.c0, q2.c1, q2.c2, q2.c3, q2.c4, q2.c5, q2.c6⟩)
      go_region_held3 (fun WX => WX.cell? ⟨w.heap.size, 0, none⟩ = some (.int .i64 x.nodes) ∧ WX.cell? ⟨w.heap.size, 1, none⟩ = some (.int .i64 x.cores) ∧ WX.cell? ⟨w.heap.size, 2, none⟩ = some (.int .i64 x.gpus) ∧ WX.cell? ⟨w.heap.size, 3, none⟩ = some (.string x.tag) ∧ WX.cell? ⟨w.heap.size, 4, none⟩ = some (.bool x.whole) ∧ WX.cell? ⟨w.heap.size, 5, none⟩ = some (.int .i64 x.long) ∧ WX.cell? ⟨w.heap.size, 6, none⟩ = some (.int .i64 x.prio) ∧ WX.cell? ⟨w.heap.size + 1, 0, none⟩ = some (.int .i64 y.nodes) ∧ WX.cell? ⟨w.heap.size + 1, 1, none⟩ = some (.int .i64 y.cores) ∧ WX.cell? ⟨w.heap.size + 1, 2, none⟩ = some (.int .i64 y.gpus) ∧ WX.cell? ⟨w.heap.size + 1, 3, none⟩ = some (.string y.tag) ∧ WX.cell? ⟨w.heap.size + 1, 4, none⟩ = some (.bool y.whole) ∧ WX.cell? ⟨w.heap.size + 1, 5, none⟩ = some (.int .i64 y.long) ∧ WX.cell? ⟨w.heap.size + 1, 6, none⟩ = some (.int .i64 y.prio))
        (first | exact HKEEP.out _ (Below.refl _ _) | go_keep | exact HKEEP.out _ HY3.out | exact HKEEP.out _ HY4.out | fail)
        (first | (go_at_call 23; (with_reducible refine (cmpI_any _ _ _).mono ?_); rintro e w9 ⟨rfl, rfl⟩) | (go_at_call 25; (with_reducible refine (cmpL_any _ _ _).mono ?_); rintro e w9 ⟨rfl, rfl⟩) | (go_at_call 24; (with_reducible refine (specParts_any x w2.drew HX.out HRX.out).mono ?_); rintro e w3 ⟨rfl, hb⟩; have HY3 := Lib.hid hb; clear hb) | (go_at_call 24; (with_reducible refine (specParts_any y w3 HY.out HRY.out).mono ?_); rintro e w4 ⟨rfl, hb⟩; have HY4 := Lib.hid (HY3.out.trans (hb.mono HY3.out.size)); clear hb) | (go_at_call 22; (with_reducible refine (cmpOr_lit _ _ _ w4 _ _).mono ?_); rintro e w9 ⟨rfl, rfl⟩) | fail)
      go_wp2
      go_ret
      exact ⟨rfl, HB2.out.trans (((bel_und HY4.out).alloc (bel_und HY4.out).size _).mono HB2.out.size)⟩

theorem boxS_cells {wr : World} {g : Nat} {s : Sp} (h : BoxS wr g s) : (∀ j, wr.frozen? ⟨g, j, none⟩ = false) ∧ wr.cell? ⟨g, 0, none⟩ = some (.int .i64 s.nodes) ∧ wr.cell? ⟨g, 1, none⟩ = some (.int .i64 s.cores) ∧ wr.cell? ⟨g, 2, none⟩ = some (.int .i64 s.gpus) ∧ wr.cell? ⟨g, 3, none⟩ = some (.string s.tag) ∧ wr.cell? ⟨g, 4, none⟩ = some (.bool s.whole) ∧ wr.cell? ⟨g, 5, none⟩ = some (.int .i64 s.long) ∧ wr.cell? ⟨g, 6, none⟩ = some (.int .i64 s.prio) :=
  ⟨h.frozen, h.c0, h.c1, h.c2, h.c3, h.c4, h.c5, h.c6⟩

theorem part_arg {s : Sp} {n : Int} (h : rightS s = false ∨ n < 0) : partS s n = (sp0, 1) := by unfold partS; rw [if_pos h]
set_option maxRecDepth 100000 in
set_option maxHeartbeats 4000000 in
theorem specPart_any (s : Sp) (n : Int) (w : World) (hs : SAsk s) :
    Calls Try.prog 11 #[.agg #[.int .i64 s.nodes, .int .i64 s.cores, .int .i64 s.gpus, .string s.tag, .bool s.whole, .int .i64 s.long, .int .i64 s.prio], .int .i64 n] w fun e w' => e = .returned (.tuple #[spV (partS s n).1, .int .i64 (partS s n).2]) ∧ Below w.heap.size w w' := by
  have HS := Lib.hid hs
  clear hs
  obtain ⟨W, hW⟩ : ∃ W, W = (w.alloc (spO s)).alloc (spO sp0) := ⟨_, rfl⟩
  have BX : Hid (BoxS W w.heap.size s) := Lib.hid (by rw [hW]; exact (box_new w s).alloc _)
  have BY : Hid (BoxS W (w.heap.size + 1) sp0) := Lib.hid (by rw [hW]; have := box_new (w.alloc (spO s)) sp0; simpa using this)
  have BW : Hid (Below w.heap.size w W) := Lib.hid (by rw [hW]; exact ((Below.refl _ _).alloc (Nat.le_refl _) _).alloc (by simp) _)
  unfold spO sp0 at hW
  cases hr : rightS s with
  | false =>
    rw [part_arg (.inl hr)]
    have HR := Lib.hid hr
    clear hr
    go_enter Try.func11, Try.ntmps11
    go_wp2_with fail
    rw [← hW]
    refine (specRight_b HS.out HR.out).mono ?_
    rintro e w1 ⟨rfl, hb⟩
    have HB1 := Lib.hid (BW.out.trans (hb.mono BW.out.size))
    have BX1 := Lib.hid (BX.out.next hb)
    have BY1 := Lib.hid (BY.out.next hb)
    clear hb
    obtain ⟨f, a0, a1, a2, a3, a4, a5, a6⟩ := boxS_cells BY1.out
    dsimp only [sp0] at a0 a1 a2 a3 a4 a5 a6
    clear hW
    go_wp2
    refine bodyPost_ret (v := .tuple #[spV sp0, .int .i64 1]) (by simp [results, Try.results11, go_sem, spV, sp0, a0, a1, a2, a3, a4, a5, a6]) rfl ⟨rfl, ?_⟩
    exact ((((((HB1.out.setCell (Nat.le_succ _) _).setCell (Nat.le_succ _) _).setCell (Nat.le_succ _) _).setCell (Nat.le_succ _) _).setCell (Nat.le_succ _) _).setCell (Nat.le_succ _) _).setCell (Nat.le_succ _) _
  | true =>
    have HR := Lib.hid hr
    by_cases hn : n < 0
    · rw [part_arg (.inr hn)]
      have dn : decide (n < 0) = true := decide_eq_true hn
      clear hn hr
      go_enter Try.func11, Try.ntmps11
      go_wp2_with fail
      rw [← hW]
      refine (specRight_b HS.out HR.out).mono ?_
      rintro e w1 ⟨rfl, hb⟩
      have HB1 := Lib.hid (BW.out.trans (hb.mono BW.out.size))
      have BX1 := Lib.hid (BX.out.next hb)
      have BY1 := Lib.hid (BY.out.next hb)
      clear hb
      obtain ⟨f, a0, a1, a2, a3, a4, a5, a6⟩ := boxS_cells BY1.out
      dsimp only [sp0] at a0 a1 a2 a3 a4 a5 a6
      clear hW
      go_wp2
      refine bodyPost_ret (v := .tuple #[spV sp0, .int .i64 1]) (by simp [results, Try.results11, go_sem, spV, sp0, a0, a1, a2, a3, a4, a5, a6]) rfl ⟨rfl, ?_⟩
      exact ((((((HB1.out.setCell (Nat.le_succ _) _).setCell (Nat.le_succ _) _).setCell (Nat.le_succ _) _).setCell (Nat.le_succ _) _).setCell (Nat.le_succ _) _).setCell (Nat.le_succ _) _).setCell (Nat.le_succ _) _
    · have dn : decide (n < 0) = false := decide_eq_false hn
      rw [partS_ok hr (by omega)]
      by_cases hm : s.nodes ≤ n
      · rw [if_pos hm]
        have dm : decide (s.nodes ≤ n) = true := decide_eq_true hm
        clear hm hn hr
        go_enter Try.func11, Try.ntmps11
        go_wp2_with fail
        rw [← hW]
        refine (specRight_b HS.out HR.out).mono ?_
        rintro e w1 ⟨rfl, hb⟩
        have HB1 := Lib.hid (BW.out.trans (hb.mono BW.out.size))
        have BX1 := Lib.hid (BX.out.next hb)
        have BY1 := Lib.hid (BY.out.next hb)
        clear hb
        have x0 := BX1.out.c0
        obtain ⟨f, a0, a1, a2, a3, a4, a5, a6⟩ := boxS_cells BY1.out
        dsimp only [sp0] at a0 a1 a2 a3 a4 a5 a6
        clear hW
        go_wp2
        refine bodyPost_ret (v := .tuple #[spV sp0, .int .i64 6]) (by simp [results, Try.results11, go_sem, spV, sp0, a0, a1, a2, a3, a4, a5, a6]) rfl ⟨rfl, ?_⟩
        exact ((((((HB1.out.setCell (Nat.le_succ _) _).setCell (Nat.le_succ _) _).setCell (Nat.le_succ _) _).setCell (Nat.le_succ _) _).setCell (Nat.le_succ _) _).setCell (Nat.le_succ _) _).setCell (Nat.le_succ _) _
      · rw [if_neg hm]
        have dm : decide (s.nodes ≤ n) = false := decide_eq_false hm
        have bx := rightS_is hr
        have v1 : IntKind.i64.wrap (s.nodes - n) = s.nodes - n := IntWalk.i64_in _ (by omega)
        clear hm bx hr hn
        go_enter Try.func11, Try.ntmps11
        go_wp2_with fail
        rw [← hW]
        refine (specRight_b HS.out HR.out).mono ?_
        rintro e w1 ⟨rfl, hb⟩
        have HB1 := Lib.hid (BW.out.trans (hb.mono BW.out.size))
        have BX1 := Lib.hid (BX.out.next hb)
        have BY1 := Lib.hid (BY.out.next hb)
        clear hb
        have HLT := Lib.hid BX1.out.lt
        obtain ⟨fx, x0, x1, x2, x3, x4, x5, x6⟩ := boxS_cells BX1.out
        obtain ⟨f, a0, a1, a2, a3, a4, a5, a6⟩ := boxS_cells BY1.out
        dsimp only [sp0] at a0 a1 a2 a3 a4 a5 a6
        clear hW
        go_wp2
        refine bodyPost_ret (v := .tuple #[spV { s with nodes := s.nodes - n }, .int .i64 0]) (by simp [results, Try.results11, go_sem, spV, a0, a1, a2, a3, a4, a5, a6]) rfl ⟨rfl, ?_⟩
        exact (((((((HB1.out.setCell (Nat.le_refl _) _).setCell (Nat.le_succ _) _).setCell (Nat.le_succ _) _).setCell (Nat.le_succ _) _).setCell (Nat.le_succ _) _).setCell (Nat.le_succ _) _).setCell (Nat.le_succ _) _).setCell (Nat.le_succ _) _

theorem specOk_is : SpecOk where
  right := fun s w hs _ => specRight_any s w hs
  asks := fun s w hs _ => specAsks_any s w hs
  ends := fun s a w hs _ _ => specEnds_any s a w hs
  ahead := fun s t w hs ht _ => specAhead_any s t w hs ht
  part := fun s a w hs _ _ => specPart_any s a w hs

end Go.Proofs.Ytggfacginheapaa
