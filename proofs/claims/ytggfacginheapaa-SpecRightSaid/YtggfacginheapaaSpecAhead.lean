/- The reference's Ahead of layer 7 (bailiwickref07): what it answers of any two specs. -/
import Derived.Test.YtggfacginheapaaSpecRef2
namespace Go.Proofs.Ytggfacginheapaa
open Go.RowKit

theorem ahead_first {x y : Sp} (h : rightS x = false) : aheadS x y = false := by unfold aheadS; rw [h, Bool.false_and]
theorem ahead_second {x y : Sp} (h : rightS y = false) : aheadS x y = false := by unfold aheadS; rw [h, Bool.false_and, Bool.and_false]
theorem ahead_form {x y : Sp} (h : rightS x = true) (h2 : rightS y = true) : aheadS x y = (if x.prio ≠ y.prio then decide (y.prio < x.prio) else if x.nodes * x.cores + x.nodes * x.gpus ≠ y.nodes * y.cores + y.nodes * y.gpus then decide (x.nodes * x.cores + x.nodes * x.gpus < y.nodes * y.cores + y.nodes * y.gpus) else decide (x.long < y.long)) := by
  unfold aheadS sizeS; rw [h, h2]; rfl
set_option maxRecDepth 100000 in
set_option maxHeartbeats 4000000 in
theorem refAheadV_any (x y : Sp) (w : World) (hx : SAsk x) (hy : SAsk y) :
    Calls Try.prog 15 #[.agg #[.int .i64 x.nodes, .int .i64 x.cores, .int .i64 x.gpus, .string x.tag, .bool x.whole, .int .i64 x.long, .int .i64 x.prio], .agg #[.int .i64 y.nodes, .int .i64 y.cores, .int .i64 y.gpus, .string y.tag, .bool y.whole, .int .i64 y.long, .int .i64 y.prio]] w
      fun e w' => e = .returned (.bool (aheadS x y)) ∧ Below w.heap.size w w' := by
  have HX := Lib.hid hx
  have HY := Lib.hid hy
  obtain ⟨W, hW⟩ : ∃ W, W = (w.alloc (spO x)).alloc (spO y) := ⟨_, rfl⟩
  have BX : Hid (BoxS W w.heap.size x) := Lib.hid (by rw [hW]; exact (box_new w x).alloc _)
  have BY : Hid (BoxS W (w.heap.size + 1) y) := Lib.hid (by rw [hW]; have := box_new (w.alloc (spO x)) y; simpa using this)
  have BW : Hid (Below w.heap.size w W) := Lib.hid (by rw [hW]; exact ((Below.refl _ _).alloc (Nat.le_refl _) _).alloc (by simp) _)
  unfold spO at hW
  clear hx hy
  cases hrx : rightS x with
  | false =>
    have e0 := Lib.hid (ahead_first (y := y) hrx)
    have HRX := Lib.hid hrx
    clear hrx
    go_enter Try.func15, Try.ntmps15
    go_wp2_with fail
    rw [← hW]
    refine (refRightS_b HX.out HRX.out).mono ?_
    rintro e w1 ⟨rfl, hb⟩
    have HB1 := Lib.hid (BW.out.trans (hb.mono BW.out.size))
    have BX1 := Lib.hid (BX.out.next hb)
    have BY1 := Lib.hid (BY.out.next hb)
    clear hb
    go_wp2
    go_ret
    exact ⟨ret_bool e0.out, HB1.out⟩
  | true =>
    have HRX := Lib.hid hrx
    cases hry : rightS y with
    | false =>
      have e0 := Lib.hid (ahead_second (x := x) hry)
      have HRY := Lib.hid hry
      clear hrx hry
      go_enter Try.func15, Try.ntmps15
      go_wp2_with fail
      rw [← hW]
      refine (refRightS_b HX.out HRX.out).mono ?_
      rintro e w1 ⟨rfl, hb⟩
      have HB1 := Lib.hid (BW.out.trans (hb.mono BW.out.size))
      have BX1 := Lib.hid (BX.out.next hb)
      have BY1 := Lib.hid (BY.out.next hb)
      clear hb
      have c0 := BY1.out.c0
      have c1 := BY1.out.c1
      have c2 := BY1.out.c2
      have c3 := BY1.out.c3
      have c4 := BY1.out.c4
      have c5 := BY1.out.c5
      have c6 := BY1.out.c6
      go_wp2_with fail
      refine (refRightS_b HY.out HRY.out).mono ?_
      rintro e w2 ⟨rfl, hb⟩
      have HB2 := Lib.hid (HB1.out.trans (hb.mono HB1.out.size))
      have BX2 := Lib.hid (BX1.out.next hb)
      have BY2 := Lib.hid (BY1.out.next hb)
      clear hb
      clear c0 c1 c2 c3 c4 c5 c6
      go_wp2
      go_ret
      exact ⟨ret_bool e0.out, HB2.out⟩
    | true =>
      have hform := ahead_form hrx hry
      have bx := rightS_is hrx
      have by_ := rightS_is hry
      have m1 := mul_bounds (x := x.nodes) (y := x.cores) (by omega) bx.2.1.2 bx.2.2.1.1 bx.2.2.1.2
      have m2 := mul_bounds (x := x.nodes) (y := x.gpus) (by omega) bx.2.1.2 bx.2.2.2.1.1 bx.2.2.2.1.2
      have m3 := mul_bounds (x := y.nodes) (y := y.cores) (by omega) by_.2.1.2 by_.2.2.1.1 by_.2.2.1.2
      have m4 := mul_bounds (x := y.nodes) (y := y.gpus) (by omega) by_.2.1.2 by_.2.2.2.1.1 by_.2.2.2.1.2
      have HRY := Lib.hid hry
      obtain ⟨r, hr0⟩ : ∃ r, aheadS x y = r := ⟨_, rfl⟩
      rw [hr0] at hform ⊢
      have HF := Lib.hid hform
      have v1 : IntKind.i64.wrap (x.nodes * x.cores) = x.nodes * x.cores := IntWalk.i64_in _ (by omega)
      have v2 : IntKind.i64.wrap (x.nodes * x.gpus) = x.nodes * x.gpus := IntWalk.i64_in _ (by omega)
      have v3 : IntKind.i64.wrap (y.nodes * y.cores) = y.nodes * y.cores := IntWalk.i64_in _ (by omega)
      have v4 : IntKind.i64.wrap (y.nodes * y.gpus) = y.nodes * y.gpus := IntWalk.i64_in _ (by omega)
      have v5 : IntKind.i64.wrap (x.nodes * x.cores + x.nodes * x.gpus) = x.nodes * x.cores + x.nodes * x.gpus := IntWalk.i64_in _ (by omega)
      have v6 : IntKind.i64.wrap (y.nodes * y.cores + y.nodes * y.gpus) = y.nodes * y.cores + y.nodes * y.gpus := IntWalk.i64_in _ (by omega)
      have V := Lib.hid (And.intro v1 (And.intro v2 (And.intro v3 (And.intro v4 (And.intro v5 v6)))))
      clear hrx hry hr0 hform bx by_ m1 m2 m3 m4 v1 v2 v3 v4 v5 v6
      by_cases hp : x.prio = y.prio
      · have hpd : (x.prio != y.prio) = false := by simpa using hp
        have HP := Lib.hid hp
        clear hp
        by_cases hs : x.nodes * x.cores + x.nodes * x.gpus = y.nodes * y.cores + y.nodes * y.gpus
        · have hsd : (x.nodes * x.cores + x.nodes * x.gpus != y.nodes * y.cores + y.nodes * y.gpus) = false := by simpa using hs
          have e1 : Hid (r = decide (x.long < y.long)) := Lib.hid (by rw [HF.out, if_neg (fun h => h HP.out), if_neg (fun h => h hs)])
          clear hs
          go_enter Try.func15, Try.ntmps15
          go_wp2_with fail
          rw [← hW]
          refine (refRightS_b HX.out HRX.out).mono ?_
          rintro e w1 ⟨rfl, hb⟩
          have HB1 := Lib.hid (BW.out.trans (hb.mono BW.out.size))
          have BX1 := Lib.hid (BX.out.next hb)
          have BY1 := Lib.hid (BY.out.next hb)
          clear hb
          have c0 := BY1.out.c0
          have c1 := BY1.out.c1
          have c2 := BY1.out.c2
          have c3 := BY1.out.c3
          have c4 := BY1.out.c4
          have c5 := BY1.out.c5
          have c6 := BY1.out.c6
          go_wp2_with fail
          refine (refRightS_b HY.out HRY.out).mono ?_
          rintro e w2 ⟨rfl, hb⟩
          have HB2 := Lib.hid (HB1.out.trans (hb.mono HB1.out.size))
          have BX2 := Lib.hid (BX1.out.next hb)
          have BY2 := Lib.hid (BY1.out.next hb)
          clear hb
          clear c0 c1 c2 c3 c4 c5 c6
          have x0 := BX2.out.c0
          have y0 := BY2.out.c0
          have x1 := BX2.out.c1
          have y1 := BY2.out.c1
          have x2 := BX2.out.c2
          have y2 := BY2.out.c2
          have x5 := BX2.out.c5
          have y5 := BY2.out.c5
          have x6 := BX2.out.c6
          have y6 := BY2.out.c6
          obtain ⟨v1, v2, v3, v4, v5, v6⟩ := V.out
          go_wp2
          go_quiet (fail)
          clear v1 v2 v3 v4 v5 v6
          go_wp2
          go_ret
          exact ⟨ret_bool e1.out, bel_more HB2.out _⟩
        · have hsd : (x.nodes * x.cores + x.nodes * x.gpus != y.nodes * y.cores + y.nodes * y.gpus) = true := by simpa using hs
          have e1 : Hid (r = decide (x.nodes * x.cores + x.nodes * x.gpus < y.nodes * y.cores + y.nodes * y.gpus)) := Lib.hid (by rw [HF.out, if_neg (fun h => h HP.out), if_pos hs])
          clear hs
          go_enter Try.func15, Try.ntmps15
          go_wp2_with fail
          rw [← hW]
          refine (refRightS_b HX.out HRX.out).mono ?_
          rintro e w1 ⟨rfl, hb⟩
          have HB1 := Lib.hid (BW.out.trans (hb.mono BW.out.size))
          have BX1 := Lib.hid (BX.out.next hb)
          have BY1 := Lib.hid (BY.out.next hb)
          clear hb
          have c0 := BY1.out.c0
          have c1 := BY1.out.c1
          have c2 := BY1.out.c2
          have c3 := BY1.out.c3
          have c4 := BY1.out.c4
          have c5 := BY1.out.c5
          have c6 := BY1.out.c6
          go_wp2_with fail
          refine (refRightS_b HY.out HRY.out).mono ?_
          rintro e w2 ⟨rfl, hb⟩
          have HB2 := Lib.hid (HB1.out.trans (hb.mono HB1.out.size))
          have BX2 := Lib.hid (BX1.out.next hb)
          have BY2 := Lib.hid (BY1.out.next hb)
          clear hb
          clear c0 c1 c2 c3 c4 c5 c6
          have x0 := BX2.out.c0
          have y0 := BY2.out.c0
          have x1 := BX2.out.c1
          have y1 := BY2.out.c1
          have x2 := BX2.out.c2
          have y2 := BY2.out.c2
          have x5 := BX2.out.c5
          have y5 := BY2.out.c5
          have x6 := BX2.out.c6
          have y6 := BY2.out.c6
          obtain ⟨v1, v2, v3, v4, v5, v6⟩ := V.out
          go_wp2
          go_quiet (fail)
          clear v1 v2 v3 v4 v5 v6
          go_wp2
          go_ret
          exact ⟨ret_bool e1.out, bel_more HB2.out _⟩
      · have hpd : (x.prio != y.prio) = true := by simpa using hp
        have e1 : Hid (r = decide (y.prio < x.prio)) := Lib.hid (by rw [HF.out, if_pos hp])
        clear hp
        go_enter Try.func15, Try.ntmps15
        go_wp2_with fail
        rw [← hW]
        refine (refRightS_b HX.out HRX.out).mono ?_
        rintro e w1 ⟨rfl, hb⟩
        have HB1 := Lib.hid (BW.out.trans (hb.mono BW.out.size))
        have BX1 := Lib.hid (BX.out.next hb)
        have BY1 := Lib.hid (BY.out.next hb)
        clear hb
        have c0 := BY1.out.c0
        have c1 := BY1.out.c1
        have c2 := BY1.out.c2
        have c3 := BY1.out.c3
        have c4 := BY1.out.c4
        have c5 := BY1.out.c5
        have c6 := BY1.out.c6
        go_wp2_with fail
        refine (refRightS_b HY.out HRY.out).mono ?_
        rintro e w2 ⟨rfl, hb⟩
        have HB2 := Lib.hid (HB1.out.trans (hb.mono HB1.out.size))
        have BX2 := Lib.hid (BX1.out.next hb)
        have BY2 := Lib.hid (BY1.out.next hb)
        clear hb
        clear c0 c1 c2 c3 c4 c5 c6
        have x0 := BX2.out.c0
        have y0 := BY2.out.c0
        have x1 := BX2.out.c1
        have y1 := BY2.out.c1
        have x2 := BX2.out.c2
        have y2 := BY2.out.c2
        have x5 := BX2.out.c5
        have y5 := BY2.out.c5
        have x6 := BX2.out.c6
        have y6 := BY2.out.c6
        go_wp2
        go_ret
        exact ⟨ret_bool e1.out, HB2.out⟩
theorem refAhead_b {x y : Sp} {w : World} {b : Bool} (hx : SAsk x) (hy : SAsk y) (h : aheadS x y = b) :
    Calls Try.prog 15 #[spV x, spV y] w fun e w' => e = .returned (.bool b) ∧ Below w.heap.size w w' := by
  subst h; exact refAheadV_any x y w hx hy
theorem refEnds_b {s : Sp} {a r : Int} {w : World} (hs : SAsk s) (ha : I64 a) (h : endsS s a = r) :
    Calls Try.prog 13 #[spV s, .int .i64 a] w fun e w' => e = .returned (.int .i64 r) ∧ Below w.heap.size w w' := by
  subst h
  obtain ⟨sn, sc, sg, st, sw, sl, sp⟩ := s
  exact refEndsV_any sn sc sg st sw sl sp a w hs ha

end Go.Proofs.Ytggfacginheapaa
