/- The statement SpecNormal, as a walk over the contracts: of any three specs the call returns true. -/
import Derived.Test.YtggfacginheapaaSpecLEnds
namespace Go.Proofs.Ytggfacginheapaa
open Go.RowKit

theorem s7_ahead_first {x y : Sp} (h : rightS x = false) : aheadS x y = false := by unfold aheadS; rw [h, Bool.false_and]
theorem s7_ahead_second {x y : Sp} (h : rightS y = false) : aheadS x y = false := by unfold aheadS; rw [h, Bool.false_and, Bool.and_false]
set_option maxRecDepth 100000 in
set_option maxHeartbeats 16000000 in
theorem specNormal_walk (H : SpecOk) (a b c : Sp) (w : World) (ha : SAsk a) (hb : SAsk b) (hc : SAsk c) (hG : Glob w) :
    Calls Try.prog 4 #[.agg #[.int .i64 a.nodes, .int .i64 a.cores, .int .i64 a.gpus, .string a.tag, .bool a.whole, .int .i64 a.long, .int .i64 a.prio], .agg #[.int .i64 b.nodes, .int .i64 b.cores, .int .i64 b.gpus, .string b.tag, .bool b.whole, .int .i64 b.long, .int .i64 b.prio], .agg #[.int .i64 c.nodes, .int .i64 c.cores, .int .i64 c.gpus, .string c.tag, .bool c.whole, .int .i64 c.long, .int .i64 c.prio]] w fun e w' => e = .returned (.bool true) ∧ Below w.heap.size w w' := by
  have Aa := Lib.hid ha
  have Ab := Lib.hid hb
  have Ac := Lib.hid hc
  clear ha hb hc
  obtain ⟨W, hW⟩ : ∃ W, W = (((w).alloc (spO a)).alloc (spO b)).alloc (spO c) := ⟨_, rfl⟩
  have Ba0 : Hid (BoxS W (w.heap.size) a) := Lib.hid (by rw [hW]; have h := (((box_new (w) a).alloc (spO b)).alloc (spO c)); simpa using h)
  have Bb0 : Hid (BoxS W (w.heap.size + 1) b) := Lib.hid (by rw [hW]; have h := ((box_new ((w).alloc (spO a)) b).alloc (spO c)); simpa using h)
  have Bc0 : Hid (BoxS W (w.heap.size + 2) c) := Lib.hid (by rw [hW]; have h := (box_new (((w).alloc (spO a)).alloc (spO b)) c); simpa using h)
  have HB0 : Hid (Below w.heap.size w W) := Lib.hid (by rw [hW]; exact ((((Below.refl _ _).alloc (by simp <;> omega) _).alloc (by simp <;> omega) _).alloc (by simp <;> omega) _))
  have HG0 := Lib.hid (hG.next HB0.out)
  unfold spO at hW
  cases hra : rightS a with
  | false =>
    have Ra := Lib.hid hra
    have E1 := Lib.hid (s7_ahead_first (y := b) hra)
    clear hra
    go_enter Try.func4, Try.ntmps4
    go_wp2_with fail
    rw [← hW]
    refine (awake7_any H _ HG0.out).mono ?_
    rintro e w1 ⟨rfl, hb⟩
    have HB1 := Lib.hid (HB0.out.trans (hb.mono HB0.out.size))
    have HG1 := Lib.hid (HG0.out.next hb)
    have Ba1 := Lib.hid (Ba0.out.next hb)
    have Bb1 := Lib.hid (Bb0.out.next hb)
    have Bc1 := Lib.hid (Bc0.out.next hb)
    clear hb
    have a0 := Ba1.out.c0
    have a1 := Ba1.out.c1
    have a2 := Ba1.out.c2
    have a3 := Ba1.out.c3
    have a4 := Ba1.out.c4
    have a5 := Ba1.out.c5
    have a6 := Ba1.out.c6
    have b0 := Bb1.out.c0
    have b1 := Bb1.out.c1
    have b2 := Bb1.out.c2
    have b3 := Bb1.out.c3
    have b4 := Bb1.out.c4
    have b5 := Bb1.out.c5
    have b6 := Bb1.out.c6
    have c0 := Bc1.out.c0
    have c1 := Bc1.out.c1
    have c2 := Bc1.out.c2
    have c3 := Bc1.out.c3
    have c4 := Bc1.out.c4
    have c5 := Bc1.out.c5
    have c6 := Bc1.out.c6
    go_wp2_with fail
    refine (s7_right H Aa.out HG1.out Ra.out).mono ?_
    rintro e w2 ⟨rfl, hb⟩
    have HB2 := Lib.hid (HB1.out.trans (hb.mono HB1.out.size))
    have HG2 := Lib.hid (HG1.out.next hb)
    have Ba2 := Lib.hid (Ba1.out.next hb)
    have Bb2 := Lib.hid (Bb1.out.next hb)
    have Bc2 := Lib.hid (Bc1.out.next hb)
    clear hb
    clear a0 a1 a2 a3 a4 a5 a6 b0 b1 b2 b3 b4 b5 b6 c0 c1 c2 c3 c4 c5 c6
    have a0 := Ba2.out.c0
    have a1 := Ba2.out.c1
    have a2 := Ba2.out.c2
    have a3 := Ba2.out.c3
    have a4 := Ba2.out.c4
    have a5 := Ba2.out.c5
    have a6 := Ba2.out.c6
    have b0 := Bb2.out.c0
    have b1 := Bb2.out.c1
    have b2 := Bb2.out.c2
    have b3 := Bb2.out.c3
    have b4 := Bb2.out.c4
    have b5 := Bb2.out.c5
    have b6 := Bb2.out.c6
    have c0 := Bc2.out.c0
    have c1 := Bc2.out.c1
    have c2 := Bc2.out.c2
    have c3 := Bc2.out.c3
    have c4 := Bc2.out.c4
    have c5 := Bc2.out.c5
    have c6 := Bc2.out.c6
    go_wp2_with fail
    refine (s7_ahead H Aa.out HG2.out Ab.out E1.out).mono ?_
    rintro e w3 ⟨rfl, hb⟩
    have HB3 := Lib.hid (HB2.out.trans (hb.mono HB2.out.size))
    have HG3 := Lib.hid (HG2.out.next hb)
    have Ba3 := Lib.hid (Ba2.out.next hb)
    have Bb3 := Lib.hid (Bb2.out.next hb)
    have Bc3 := Lib.hid (Bc2.out.next hb)
    clear hb
    clear a0 a1 a2 a3 a4 a5 a6 b0 b1 b2 b3 b4 b5 b6 c0 c1 c2 c3 c4 c5 c6
    go_wp2
    go_ret
    exact ⟨rfl, HB3.out⟩
  | true =>
    cases hrb : rightS b with
    | false =>
      have Ra := Lib.hid hra
      have Rb := Lib.hid hrb
      have E1 := Lib.hid (s7_ahead_second (x := a) hrb)
      clear hra hrb
      go_enter Try.func4, Try.ntmps4
      go_wp2_with fail
      rw [← hW]
      refine (awake7_any H _ HG0.out).mono ?_
      rintro e w1 ⟨rfl, hb⟩
      have HB1 := Lib.hid (HB0.out.trans (hb.mono HB0.out.size))
      have HG1 := Lib.hid (HG0.out.next hb)
      have Ba1 := Lib.hid (Ba0.out.next hb)
      have Bb1 := Lib.hid (Bb0.out.next hb)
      have Bc1 := Lib.hid (Bc0.out.next hb)
      clear hb
      have a0 := Ba1.out.c0
      have a1 := Ba1.out.c1
      have a2 := Ba1.out.c2
      have a3 := Ba1.out.c3
      have a4 := Ba1.out.c4
      have a5 := Ba1.out.c5
      have a6 := Ba1.out.c6
      have b0 := Bb1.out.c0
      have b1 := Bb1.out.c1
      have b2 := Bb1.out.c2
      have b3 := Bb1.out.c3
      have b4 := Bb1.out.c4
      have b5 := Bb1.out.c5
      have b6 := Bb1.out.c6
      have c0 := Bc1.out.c0
      have c1 := Bc1.out.c1
      have c2 := Bc1.out.c2
      have c3 := Bc1.out.c3
      have c4 := Bc1.out.c4
      have c5 := Bc1.out.c5
      have c6 := Bc1.out.c6
      go_wp2_with fail
      refine (s7_right H Aa.out HG1.out Ra.out).mono ?_
      rintro e w2 ⟨rfl, hb⟩
      have HB2 := Lib.hid (HB1.out.trans (hb.mono HB1.out.size))
      have HG2 := Lib.hid (HG1.out.next hb)
      have Ba2 := Lib.hid (Ba1.out.next hb)
      have Bb2 := Lib.hid (Bb1.out.next hb)
      have Bc2 := Lib.hid (Bc1.out.next hb)
      clear hb
      clear a0 a1 a2 a3 a4 a5 a6 b0 b1 b2 b3 b4 b5 b6 c0 c1 c2 c3 c4 c5 c6
      have a0 := Ba2.out.c0
      have a1 := Ba2.out.c1
      have a2 := Ba2.out.c2
      have a3 := Ba2.out.c3
      have a4 := Ba2.out.c4
      have a5 := Ba2.out.c5
      have a6 := Ba2.out.c6
      have b0 := Bb2.out.c0
      have b1 := Bb2.out.c1
      have b2 := Bb2.out.c2
      have b3 := Bb2.out.c3
      have b4 := Bb2.out.c4
      have b5 := Bb2.out.c5
      have b6 := Bb2.out.c6
      have c0 := Bc2.out.c0
      have c1 := Bc2.out.c1
      have c2 := Bc2.out.c2
      have c3 := Bc2.out.c3
      have c4 := Bc2.out.c4
      have c5 := Bc2.out.c5
      have c6 := Bc2.out.c6
      go_wp2_with fail
      refine (s7_right H Ab.out HG2.out Rb.out).mono ?_
      rintro e w3 ⟨rfl, hb⟩
      have HB3 := Lib.hid (HB2.out.trans (hb.mono HB2.out.size))
      have HG3 := Lib.hid (HG2.out.next hb)
      have Ba3 := Lib.hid (Ba2.out.next hb)
      have Bb3 := Lib.hid (Bb2.out.next hb)
      have Bc3 := Lib.hid (Bc2.out.next hb)
      clear hb
      clear a0 a1 a2 a3 a4 a5 a6 b0 b1 b2 b3 b4 b5 b6 c0 c1 c2 c3 c4 c5 c6
      have a0 := Ba3.out.c0
      have a1 := Ba3.out.c1
      have a2 := Ba3.out.c2
      have a3 := Ba3.out.c3
      have a4 := Ba3.out.c4
      have a5 := Ba3.out.c5
      have a6 := Ba3.out.c6
      have b0 := Bb3.out.c0
      have b1 := Bb3.out.c1
      have b2 := Bb3.out.c2
      have b3 := Bb3.out.c3
      have b4 := Bb3.out.c4
      have b5 := Bb3.out.c5
      have b6 := Bb3.out.c6
      have c0 := Bc3.out.c0
      have c1 := Bc3.out.c1
      have c2 := Bc3.out.c2
      have c3 := Bc3.out.c3
      have c4 := Bc3.out.c4
      have c5 := Bc3.out.c5
      have c6 := Bc3.out.c6
      go_wp2_with fail
      refine (s7_ahead H Aa.out HG3.out Ab.out E1.out).mono ?_
      rintro e w4 ⟨rfl, hb⟩
      have HB4 := Lib.hid (HB3.out.trans (hb.mono HB3.out.size))
      have HG4 := Lib.hid (HG3.out.next hb)
      have Ba4 := Lib.hid (Ba3.out.next hb)
      have Bb4 := Lib.hid (Bb3.out.next hb)
      have Bc4 := Lib.hid (Bc3.out.next hb)
      clear hb
      clear a0 a1 a2 a3 a4 a5 a6 b0 b1 b2 b3 b4 b5 b6 c0 c1 c2 c3 c4 c5 c6
      go_wp2
      go_ret
      exact ⟨rfl, HB4.out⟩
    | true =>
      cases hrc : rightS c with
      | false =>
        have Ra := Lib.hid hra
        have Rb := Lib.hid hrb
        have Rc := Lib.hid hrc
        have E2 := Lib.hid (s7_ahead_second (x := b) hrc)
        cases hv : aheadS a b with
        | false =>
          have E1 := Lib.hid hv
          clear hra hrb hrc hv
          go_enter Try.func4, Try.ntmps4
          go_wp2_with fail
          rw [← hW]
          refine (awake7_any H _ HG0.out).mono ?_
          rintro e w1 ⟨rfl, hb⟩
          have HB1 := Lib.hid (HB0.out.trans (hb.mono HB0.out.size))
          have HG1 := Lib.hid (HG0.out.next hb)
          have Ba1 := Lib.hid (Ba0.out.next hb)
          have Bb1 := Lib.hid (Bb0.out.next hb)
          have Bc1 := Lib.hid (Bc0.out.next hb)
          clear hb
          have a0 := Ba1.out.c0
          have a1 := Ba1.out.c1
          have a2 := Ba1.out.c2
          have a3 := Ba1.out.c3
          have a4 := Ba1.out.c4
          have a5 := Ba1.out.c5
          have a6 := Ba1.out.c6
          have b0 := Bb1.out.c0
          have b1 := Bb1.out.c1
          have b2 := Bb1.out.c2
          have b3 := Bb1.out.c3
          have b4 := Bb1.out.c4
          have b5 := Bb1.out.c5
          have b6 := Bb1.out.c6
          have c0 := Bc1.out.c0
          have c1 := Bc1.out.c1
          have c2 := Bc1.out.c2
          have c3 := Bc1.out.c3
          have c4 := Bc1.out.c4
          have c5 := Bc1.out.c5
          have c6 := Bc1.out.c6
          go_wp2_with fail
          refine (s7_right H Aa.out HG1.out Ra.out).mono ?_
          rintro e w2 ⟨rfl, hb⟩
          have HB2 := Lib.hid (HB1.out.trans (hb.mono HB1.out.size))
          have HG2 := Lib.hid (HG1.out.next hb)
          have Ba2 := Lib.hid (Ba1.out.next hb)
          have Bb2 := Lib.hid (Bb1.out.next hb)
          have Bc2 := Lib.hid (Bc1.out.next hb)
          clear hb
          clear a0 a1 a2 a3 a4 a5 a6 b0 b1 b2 b3 b4 b5 b6 c0 c1 c2 c3 c4 c5 c6
          have a0 := Ba2.out.c0
          have a1 := Ba2.out.c1
          have a2 := Ba2.out.c2
          have a3 := Ba2.out.c3
          have a4 := Ba2.out.c4
          have a5 := Ba2.out.c5
          have a6 := Ba2.out.c6
          have b0 := Bb2.out.c0
          have b1 := Bb2.out.c1
          have b2 := Bb2.out.c2
          have b3 := Bb2.out.c3
          have b4 := Bb2.out.c4
          have b5 := Bb2.out.c5
          have b6 := Bb2.out.c6
          have c0 := Bc2.out.c0
          have c1 := Bc2.out.c1
          have c2 := Bc2.out.c2
          have c3 := Bc2.out.c3
          have c4 := Bc2.out.c4
          have c5 := Bc2.out.c5
          have c6 := Bc2.out.c6
          go_wp2_with fail
          refine (s7_right H Ab.out HG2.out Rb.out).mono ?_
          rintro e w3 ⟨rfl, hb⟩
          have HB3 := Lib.hid (HB2.out.trans (hb.mono HB2.out.size))
          have HG3 := Lib.hid (HG2.out.next hb)
          have Ba3 := Lib.hid (Ba2.out.next hb)
          have Bb3 := Lib.hid (Bb2.out.next hb)
          have Bc3 := Lib.hid (Bc2.out.next hb)
          clear hb
          clear a0 a1 a2 a3 a4 a5 a6 b0 b1 b2 b3 b4 b5 b6 c0 c1 c2 c3 c4 c5 c6
          have a0 := Ba3.out.c0
          have a1 := Ba3.out.c1
          have a2 := Ba3.out.c2
          have a3 := Ba3.out.c3
          have a4 := Ba3.out.c4
          have a5 := Ba3.out.c5
          have a6 := Ba3.out.c6
          have b0 := Bb3.out.c0
          have b1 := Bb3.out.c1
          have b2 := Bb3.out.c2
          have b3 := Bb3.out.c3
          have b4 := Bb3.out.c4
          have b5 := Bb3.out.c5
          have b6 := Bb3.out.c6
          have c0 := Bc3.out.c0
          have c1 := Bc3.out.c1
          have c2 := Bc3.out.c2
          have c3 := Bc3.out.c3
          have c4 := Bc3.out.c4
          have c5 := Bc3.out.c5
          have c6 := Bc3.out.c6
          go_wp2_with fail
          refine (s7_right H Ac.out HG3.out Rc.out).mono ?_
          rintro e w4 ⟨rfl, hb⟩
          have HB4 := Lib.hid (HB3.out.trans (hb.mono HB3.out.size))
          have HG4 := Lib.hid (HG3.out.next hb)
          have Ba4 := Lib.hid (Ba3.out.next hb)
          have Bb4 := Lib.hid (Bb3.out.next hb)
          have Bc4 := Lib.hid (Bc3.out.next hb)
          clear hb
          clear a0 a1 a2 a3 a4 a5 a6 b0 b1 b2 b3 b4 b5 b6 c0 c1 c2 c3 c4 c5 c6
          have a0 := Ba4.out.c0
          have a1 := Ba4.out.c1
          have a2 := Ba4.out.c2
          have a3 := Ba4.out.c3
          have a4 := Ba4.out.c4
          have a5 := Ba4.out.c5
          have a6 := Ba4.out.c6
          have b0 := Bb4.out.c0
          have b1 := Bb4.out.c1
          have b2 := Bb4.out.c2
          have b3 := Bb4.out.c3
          have b4 := Bb4.out.c4
          have b5 := Bb4.out.c5
          have b6 := Bb4.out.c6
          have c0 := Bc4.out.c0
          have c1 := Bc4.out.c1
          have c2 := Bc4.out.c2
          have c3 := Bc4.out.c3
          have c4 := Bc4.out.c4
          have c5 := Bc4.out.c5
          have c6 := Bc4.out.c6
          go_wp2_with fail
          refine (s7_ahead H Aa.out HG4.out Ab.out E1.out).mono ?_
          rintro e w5 ⟨rfl, hb⟩
          have HB5 := Lib.hid (HB4.out.trans (hb.mono HB4.out.size))
          have HG5 := Lib.hid (HG4.out.next hb)
          have Ba5 := Lib.hid (Ba4.out.next hb)
          have Bb5 := Lib.hid (Bb4.out.next hb)
          have Bc5 := Lib.hid (Bc4.out.next hb)
          clear hb
          clear a0 a1 a2 a3 a4 a5 a6 b0 b1 b2 b3 b4 b5 b6 c0 c1 c2 c3 c4 c5 c6
          go_wp2
          go_ret
          exact ⟨rfl, HB5.out⟩
        | true =>
          have E1 := Lib.hid hv
          clear hra hrb hrc hv
          go_enter Try.func4, Try.ntmps4
          go_wp2_with fail
          rw [← hW]
          refine (awake7_any H _ HG0.out).mono ?_
          rintro e w1 ⟨rfl, hb⟩
          have HB1 := Lib.hid (HB0.out.trans (hb.mono HB0.out.size))
          have HG1 := Lib.hid (HG0.out.next hb)
          have Ba1 := Lib.hid (Ba0.out.next hb)
          have Bb1 := Lib.hid (Bb0.out.next hb)
          have Bc1 := Lib.hid (Bc0.out.next hb)
          clear hb
          have a0 := Ba1.out.c0
          have a1 := Ba1.out.c1
          have a2 := Ba1.out.c2
          have a3 := Ba1.out.c3
          have a4 := Ba1.out.c4
          have a5 := Ba1.out.c5
          have a6 := Ba1.out.c6
          have b0 := Bb1.out.c0
          have b1 := Bb1.out.c1
          have b2 := Bb1.out.c2
          have b3 := Bb1.out.c3
          have b4 := Bb1.out.c4
          have b5 := Bb1.out.c5
          have b6 := Bb1.out.c6
          have c0 := Bc1.out.c0
          have c1 := Bc1.out.c1
          have c2 := Bc1.out.c2
          have c3 := Bc1.out.c3
          have c4 := Bc1.out.c4
          have c5 := Bc1.out.c5
          have c6 := Bc1.out.c6
          go_wp2_with fail
          refine (s7_right H Aa.out HG1.out Ra.out).mono ?_
          rintro e w2 ⟨rfl, hb⟩
          have HB2 := Lib.hid (HB1.out.trans (hb.mono HB1.out.size))
          have HG2 := Lib.hid (HG1.out.next hb)
          have Ba2 := Lib.hid (Ba1.out.next hb)
          have Bb2 := Lib.hid (Bb1.out.next hb)
          have Bc2 := Lib.hid (Bc1.out.next hb)
          clear hb
          clear a0 a1 a2 a3 a4 a5 a6 b0 b1 b2 b3 b4 b5 b6 c0 c1 c2 c3 c4 c5 c6
          have a0 := Ba2.out.c0
          have a1 := Ba2.out.c1
          have a2 := Ba2.out.c2
          have a3 := Ba2.out.c3
          have a4 := Ba2.out.c4
          have a5 := Ba2.out.c5
          have a6 := Ba2.out.c6
          have b0 := Bb2.out.c0
          have b1 := Bb2.out.c1
          have b2 := Bb2.out.c2
          have b3 := Bb2.out.c3
          have b4 := Bb2.out.c4
          have b5 := Bb2.out.c5
          have b6 := Bb2.out.c6
          have c0 := Bc2.out.c0
          have c1 := Bc2.out.c1
          have c2 := Bc2.out.c2
          have c3 := Bc2.out.c3
          have c4 := Bc2.out.c4
          have c5 := Bc2.out.c5
          have c6 := Bc2.out.c6
          go_wp2_with fail
          refine (s7_right H Ab.out HG2.out Rb.out).mono ?_
          rintro e w3 ⟨rfl, hb⟩
          have HB3 := Lib.hid (HB2.out.trans (hb.mono HB2.out.size))
          have HG3 := Lib.hid (HG2.out.next hb)
          have Ba3 := Lib.hid (Ba2.out.next hb)
          have Bb3 := Lib.hid (Bb2.out.next hb)
          have Bc3 := Lib.hid (Bc2.out.next hb)
          clear hb
          clear a0 a1 a2 a3 a4 a5 a6 b0 b1 b2 b3 b4 b5 b6 c0 c1 c2 c3 c4 c5 c6
          have a0 := Ba3.out.c0
          have a1 := Ba3.out.c1
          have a2 := Ba3.out.c2
          have a3 := Ba3.out.c3
          have a4 := Ba3.out.c4
          have a5 := Ba3.out.c5
          have a6 := Ba3.out.c6
          have b0 := Bb3.out.c0
          have b1 := Bb3.out.c1
          have b2 := Bb3.out.c2
          have b3 := Bb3.out.c3
          have b4 := Bb3.out.c4
          have b5 := Bb3.out.c5
          have b6 := Bb3.out.c6
          have c0 := Bc3.out.c0
          have c1 := Bc3.out.c1
          have c2 := Bc3.out.c2
          have c3 := Bc3.out.c3
          have c4 := Bc3.out.c4
          have c5 := Bc3.out.c5
          have c6 := Bc3.out.c6
          go_wp2_with fail
          refine (s7_right H Ac.out HG3.out Rc.out).mono ?_
          rintro e w4 ⟨rfl, hb⟩
          have HB4 := Lib.hid (HB3.out.trans (hb.mono HB3.out.size))
          have HG4 := Lib.hid (HG3.out.next hb)
          have Ba4 := Lib.hid (Ba3.out.next hb)
          have Bb4 := Lib.hid (Bb3.out.next hb)
          have Bc4 := Lib.hid (Bc3.out.next hb)
          clear hb
          clear a0 a1 a2 a3 a4 a5 a6 b0 b1 b2 b3 b4 b5 b6 c0 c1 c2 c3 c4 c5 c6
          have a0 := Ba4.out.c0
          have a1 := Ba4.out.c1
          have a2 := Ba4.out.c2
          have a3 := Ba4.out.c3
          have a4 := Ba4.out.c4
          have a5 := Ba4.out.c5
          have a6 := Ba4.out.c6
          have b0 := Bb4.out.c0
          have b1 := Bb4.out.c1
          have b2 := Bb4.out.c2
          have b3 := Bb4.out.c3
          have b4 := Bb4.out.c4
          have b5 := Bb4.out.c5
          have b6 := Bb4.out.c6
          have c0 := Bc4.out.c0
          have c1 := Bc4.out.c1
          have c2 := Bc4.out.c2
          have c3 := Bc4.out.c3
          have c4 := Bc4.out.c4
          have c5 := Bc4.out.c5
          have c6 := Bc4.out.c6
          go_wp2_with fail
          refine (s7_ahead H Aa.out HG4.out Ab.out E1.out).mono ?_
          rintro e w5 ⟨rfl, hb⟩
          have HB5 := Lib.hid (HB4.out.trans (hb.mono HB4.out.size))
          have HG5 := Lib.hid (HG4.out.next hb)
          have Ba5 := Lib.hid (Ba4.out.next hb)
          have Bb5 := Lib.hid (Bb4.out.next hb)
          have Bc5 := Lib.hid (Bc4.out.next hb)
          clear hb
          clear a0 a1 a2 a3 a4 a5 a6 b0 b1 b2 b3 b4 b5 b6 c0 c1 c2 c3 c4 c5 c6
          have a0 := Ba5.out.c0
          have a1 := Ba5.out.c1
          have a2 := Ba5.out.c2
          have a3 := Ba5.out.c3
          have a4 := Ba5.out.c4
          have a5 := Ba5.out.c5
          have a6 := Ba5.out.c6
          have b0 := Bb5.out.c0
          have b1 := Bb5.out.c1
          have b2 := Bb5.out.c2
          have b3 := Bb5.out.c3
          have b4 := Bb5.out.c4
          have b5 := Bb5.out.c5
          have b6 := Bb5.out.c6
          have c0 := Bc5.out.c0
          have c1 := Bc5.out.c1
          have c2 := Bc5.out.c2
          have c3 := Bc5.out.c3
          have c4 := Bc5.out.c4
          have c5 := Bc5.out.c5
          have c6 := Bc5.out.c6
          go_wp2_with fail
          refine (s7_ahead H Ab.out HG5.out Ac.out E2.out).mono ?_
          rintro e w6 ⟨rfl, hb⟩
          have HB6 := Lib.hid (HB5.out.trans (hb.mono HB5.out.size))
          have HG6 := Lib.hid (HG5.out.next hb)
          have Ba6 := Lib.hid (Ba5.out.next hb)
          have Bb6 := Lib.hid (Bb5.out.next hb)
          have Bc6 := Lib.hid (Bc5.out.next hb)
          clear hb
          clear a0 a1 a2 a3 a4 a5 a6 b0 b1 b2 b3 b4 b5 b6 c0 c1 c2 c3 c4 c5 c6
          go_wp2
          go_ret
          exact ⟨rfl, HB6.out⟩
      | true =>
        have Ra := Lib.hid hra
        have Rb := Lib.hid hrb
        have Rc := Lib.hid hrc
        have E0 := Lib.hid (ahead_self a)
        obtain ⟨v1, h1⟩ : ∃ v, aheadS a b = v := ⟨_, rfl⟩
        have E1 := Lib.hid h1
        obtain ⟨v2, h2⟩ : ∃ v, aheadS b a = v := ⟨_, rfl⟩
        have E2 := Lib.hid h2
        obtain ⟨v3, h3⟩ : ∃ v, aheadS b c = v := ⟨_, rfl⟩
        have E3 := Lib.hid h3
        obtain ⟨v4, h4⟩ : ∃ v, aheadS c b = v := ⟨_, rfl⟩
        have E4 := Lib.hid h4
        obtain ⟨v5, h5⟩ : ∃ v, aheadS a c = v := ⟨_, rfl⟩
        have E5 := Lib.hid h5
        have K1 : Hid (v1 = true → v2 = false) := Lib.hid (fun h => by have := ahead_both a b; rw [h1, h2] at this; cases hv2 : v2 with | false => rfl | true => exact absurd ⟨h, hv2⟩ this)
        have K2 : Hid (v1 = true → v3 = true → v5 = true) := Lib.hid (fun h h' => by rw [← h5]; exact ahead_on (by rw [h1, h]) (by rw [h3, h']))
        have K3 : Hid (v1 = false → v2 = false → v3 = false → v4 = false → v5 = false ∧ aheadS c a = false) := Lib.hid (fun q1 q2 q3 q4 => by have := ahead_alike hra hrb hrc (by rw [h1, q1]) (by rw [h2, q2]) (by rw [h3, q3]) (by rw [h4, q4]); rw [h5] at this; exact this)
        clear hra hrb hrc h1 h2 h3 h4 h5
        go_enter Try.func4, Try.ntmps4
        go_wp2_with fail
        rw [← hW]
        refine (awake7_any H _ HG0.out).mono ?_
        rintro e w1 ⟨rfl, hb⟩
        have HB1 := Lib.hid (HB0.out.trans (hb.mono HB0.out.size))
        have HG1 := Lib.hid (HG0.out.next hb)
        have Ba1 := Lib.hid (Ba0.out.next hb)
        have Bb1 := Lib.hid (Bb0.out.next hb)
        have Bc1 := Lib.hid (Bc0.out.next hb)
        clear hb
        have a0 := Ba1.out.c0
        have a1 := Ba1.out.c1
        have a2 := Ba1.out.c2
        have a3 := Ba1.out.c3
        have a4 := Ba1.out.c4
        have a5 := Ba1.out.c5
        have a6 := Ba1.out.c6
        have b0 := Bb1.out.c0
        have b1 := Bb1.out.c1
        have b2 := Bb1.out.c2
        have b3 := Bb1.out.c3
        have b4 := Bb1.out.c4
        have b5 := Bb1.out.c5
        have b6 := Bb1.out.c6
        have c0 := Bc1.out.c0
        have c1 := Bc1.out.c1
        have c2 := Bc1.out.c2
        have c3 := Bc1.out.c3
        have c4 := Bc1.out.c4
        have c5 := Bc1.out.c5
        have c6 := Bc1.out.c6
        go_wp2_with fail
        refine (s7_right H Aa.out HG1.out Ra.out).mono ?_
        rintro e w2 ⟨rfl, hb⟩
        have HB2 := Lib.hid (HB1.out.trans (hb.mono HB1.out.size))
        have HG2 := Lib.hid (HG1.out.next hb)
        have Ba2 := Lib.hid (Ba1.out.next hb)
        have Bb2 := Lib.hid (Bb1.out.next hb)
        have Bc2 := Lib.hid (Bc1.out.next hb)
        clear hb
        clear a0 a1 a2 a3 a4 a5 a6 b0 b1 b2 b3 b4 b5 b6 c0 c1 c2 c3 c4 c5 c6
        have a0 := Ba2.out.c0
        have a1 := Ba2.out.c1
        have a2 := Ba2.out.c2
        have a3 := Ba2.out.c3
        have a4 := Ba2.out.c4
        have a5 := Ba2.out.c5
        have a6 := Ba2.out.c6
        have b0 := Bb2.out.c0
        have b1 := Bb2.out.c1
        have b2 := Bb2.out.c2
        have b3 := Bb2.out.c3
        have b4 := Bb2.out.c4
        have b5 := Bb2.out.c5
        have b6 := Bb2.out.c6
        have c0 := Bc2.out.c0
        have c1 := Bc2.out.c1
        have c2 := Bc2.out.c2
        have c3 := Bc2.out.c3
        have c4 := Bc2.out.c4
        have c5 := Bc2.out.c5
        have c6 := Bc2.out.c6
        go_wp2_with fail
        refine (s7_right H Ab.out HG2.out Rb.out).mono ?_
        rintro e w3 ⟨rfl, hb⟩
        have HB3 := Lib.hid (HB2.out.trans (hb.mono HB2.out.size))
        have HG3 := Lib.hid (HG2.out.next hb)
        have Ba3 := Lib.hid (Ba2.out.next hb)
        have Bb3 := Lib.hid (Bb2.out.next hb)
        have Bc3 := Lib.hid (Bc2.out.next hb)
        clear hb
        clear a0 a1 a2 a3 a4 a5 a6 b0 b1 b2 b3 b4 b5 b6 c0 c1 c2 c3 c4 c5 c6
        have a0 := Ba3.out.c0
        have a1 := Ba3.out.c1
        have a2 := Ba3.out.c2
        have a3 := Ba3.out.c3
        have a4 := Ba3.out.c4
        have a5 := Ba3.out.c5
        have a6 := Ba3.out.c6
        have b0 := Bb3.out.c0
        have b1 := Bb3.out.c1
        have b2 := Bb3.out.c2
        have b3 := Bb3.out.c3
        have b4 := Bb3.out.c4
        have b5 := Bb3.out.c5
        have b6 := Bb3.out.c6
        have c0 := Bc3.out.c0
        have c1 := Bc3.out.c1
        have c2 := Bc3.out.c2
        have c3 := Bc3.out.c3
        have c4 := Bc3.out.c4
        have c5 := Bc3.out.c5
        have c6 := Bc3.out.c6
        go_wp2_with fail
        refine (s7_right H Ac.out HG3.out Rc.out).mono ?_
        rintro e w4 ⟨rfl, hb⟩
        have HB4 := Lib.hid (HB3.out.trans (hb.mono HB3.out.size))
        have HG4 := Lib.hid (HG3.out.next hb)
        have Ba4 := Lib.hid (Ba3.out.next hb)
        have Bb4 := Lib.hid (Bb3.out.next hb)
        have Bc4 := Lib.hid (Bc3.out.next hb)
        clear hb
        clear a0 a1 a2 a3 a4 a5 a6 b0 b1 b2 b3 b4 b5 b6 c0 c1 c2 c3 c4 c5 c6
        have a0 := Ba4.out.c0
        have a1 := Ba4.out.c1
        have a2 := Ba4.out.c2
        have a3 := Ba4.out.c3
        have a4 := Ba4.out.c4
        have a5 := Ba4.out.c5
        have a6 := Ba4.out.c6
        have b0 := Bb4.out.c0
        have b1 := Bb4.out.c1
        have b2 := Bb4.out.c2
        have b3 := Bb4.out.c3
        have b4 := Bb4.out.c4
        have b5 := Bb4.out.c5
        have b6 := Bb4.out.c6
        have c0 := Bc4.out.c0
        have c1 := Bc4.out.c1
        have c2 := Bc4.out.c2
        have c3 := Bc4.out.c3
        have c4 := Bc4.out.c4
        have c5 := Bc4.out.c5
        have c6 := Bc4.out.c6
        go_wp2
        have HGD4 : Hid (Glob w4.drew) := Lib.hid (HG4.out.next (bel_drew w4 1))
        have HKEEP : Hid (∀ wx, Below w4.drew.heap.size w4.drew wx → wx.cell? ⟨w.heap.size, 0, none⟩ = some (.int .i64 a.nodes) ∧ wx.cell? ⟨w.heap.size, 1, none⟩ = some (.int .i64 a.cores) ∧ wx.cell? ⟨w.heap.size, 2, none⟩ = some (.int .i64 a.gpus) ∧ wx.cell? ⟨w.heap.size, 3, none⟩ = some (.string a.tag) ∧ wx.cell? ⟨w.heap.size, 4, none⟩ = some (.bool a.whole) ∧ wx.cell? ⟨w.heap.size, 5, none⟩ = some (.int .i64 a.long) ∧ wx.cell? ⟨w.heap.size, 6, none⟩ = some (.int .i64 a.prio) ∧ wx.cell? ⟨w.heap.size + 1, 0, none⟩ = some (.int .i64 b.nodes) ∧ wx.cell? ⟨w.heap.size + 1, 1, none⟩ = some (.int .i64 b.cores) ∧ wx.cell? ⟨w.heap.size + 1, 2, none⟩ = some (.int .i64 b.gpus) ∧ wx.cell? ⟨w.heap.size + 1, 3, none⟩ = some (.string b.tag) ∧ wx.cell? ⟨w.heap.size + 1, 4, none⟩ = some (.bool b.whole) ∧ wx.cell? ⟨w.heap.size + 1, 5, none⟩ = some (.int .i64 b.long) ∧ wx.cell? ⟨w.heap.size + 1, 6, none⟩ = some (.int .i64 b.prio) ∧ wx.cell? ⟨w.heap.size + 2, 0, none⟩ = some (.int .i64 c.nodes) ∧ wx.cell? ⟨w.heap.size + 2, 1, none⟩ = some (.int .i64 c.cores) ∧ wx.cell? ⟨w.heap.size + 2, 2, none⟩ = some (.int .i64 c.gpus) ∧ wx.cell? ⟨w.heap.size + 2, 3, none⟩ = some (.string c.tag) ∧ wx.cell? ⟨w.heap.size + 2, 4, none⟩ = some (.bool c.whole) ∧ wx.cell? ⟨w.heap.size + 2, 5, none⟩ = some (.int .i64 c.long) ∧ wx.cell? ⟨w.heap.size + 2, 6, none⟩ = some (.int .i64 c.prio)) := Lib.hid (fun wx hb => ⟨(((Ba4.out).next (bel_drew w4 1)).next hb).c0, (((Ba4.out).next (bel_drew w4 1)).next hb).c1, (((Ba4.out).next (bel_drew w4 1)).next hb).c2, (((Ba4.out).next (bel_drew w4 1)).next hb).c3, (((Ba4.out).next (bel_drew w4 1)).next hb).c4, (((Ba4.out).next (bel_drew w4 1)).next hb).c5, (((Ba4.out).next (bel_drew w4 1)).next hb).c6, (((Bb4.out).next (bel_drew w4 1)).next hb).c0, (((Bb4.out).next (bel_drew w4 1)).next hb).c1, (((Bb4.out).next (bel_drew w4 1)).next hb).c2, (((Bb4.out).next (bel_drew w4 1)).next hb).c3, (((Bb4.out).next (bel_drew w4 1)).next hb).c4, (((Bb4.out).next (bel_drew w4 1)).next hb).c5, (((Bb4.out).next (bel_drew w4 1)).next hb).c6, (((Bc4.out).next (bel_drew w4 1)).next hb).c0, (((Bc4.out).next (bel_drew w4 1)).next hb).c1, (((Bc4.out).next (bel_drew w4 1)).next hb).c2, (((Bc4.out).next (bel_drew w4 1)).next hb).c3, (((Bc4.out).next (bel_drew w4 1)).next hb).c4, (((Bc4.out).next (bel_drew w4 1)).next hb).c5, (((Bc4.out).next (bel_drew w4 1)).next hb).c6⟩)
        go_region_held3 (fun w' => w'.cell? ⟨w.heap.size, 0, none⟩ = some (.int .i64 a.nodes) ∧ w'.cell? ⟨w.heap.size, 1, none⟩ = some (.int .i64 a.cores) ∧ w'.cell? ⟨w.heap.size, 2, none⟩ = some (.int .i64 a.gpus) ∧ w'.cell? ⟨w.heap.size, 3, none⟩ = some (.string a.tag) ∧ w'.cell? ⟨w.heap.size, 4, none⟩ = some (.bool a.whole) ∧ w'.cell? ⟨w.heap.size, 5, none⟩ = some (.int .i64 a.long) ∧ w'.cell? ⟨w.heap.size, 6, none⟩ = some (.int .i64 a.prio) ∧ w'.cell? ⟨w.heap.size + 1, 0, none⟩ = some (.int .i64 b.nodes) ∧ w'.cell? ⟨w.heap.size + 1, 1, none⟩ = some (.int .i64 b.cores) ∧ w'.cell? ⟨w.heap.size + 1, 2, none⟩ = some (.int .i64 b.gpus) ∧ w'.cell? ⟨w.heap.size + 1, 3, none⟩ = some (.string b.tag) ∧ w'.cell? ⟨w.heap.size + 1, 4, none⟩ = some (.bool b.whole) ∧ w'.cell? ⟨w.heap.size + 1, 5, none⟩ = some (.int .i64 b.long) ∧ w'.cell? ⟨w.heap.size + 1, 6, none⟩ = some (.int .i64 b.prio) ∧ w'.cell? ⟨w.heap.size + 2, 0, none⟩ = some (.int .i64 c.nodes) ∧ w'.cell? ⟨w.heap.size + 2, 1, none⟩ = some (.int .i64 c.cores) ∧ w'.cell? ⟨w.heap.size + 2, 2, none⟩ = some (.int .i64 c.gpus) ∧ w'.cell? ⟨w.heap.size + 2, 3, none⟩ = some (.string c.tag) ∧ w'.cell? ⟨w.heap.size + 2, 4, none⟩ = some (.bool c.whole) ∧ w'.cell? ⟨w.heap.size + 2, 5, none⟩ = some (.int .i64 c.long) ∧ w'.cell? ⟨w.heap.size + 2, 6, none⟩ = some (.int .i64 c.prio))
          (first | exact HKEEP.out _ (Below.refl _ _) | go_keep | exact HKEEP.out _ HY5.out | exact HKEEP.out _ HY6.out | exact HKEEP.out _ HY7.out | exact HKEEP.out _ HY8.out | exact HKEEP.out _ HY9.out | fail)
          (first | (go_at_call 14; (with_reducible refine (s7_ahead (w := w4.drew) H Aa.out HGD4.out Ab.out E1.out).mono ?_); rintro e w5 ⟨rfl, hb⟩; have HY5 := Lib.hid hb; have HG5 := Lib.hid (Glob.next HGD4.out hb); clear hb) | (go_at_call 14; (with_reducible refine (s7_ahead (w := w5) H Ab.out HG5.out Aa.out E2.out).mono ?_); rintro e w6 ⟨rfl, hb⟩; have HY6 := Lib.hid (HY5.out.trans (hb.mono HY5.out.size)); have HG6 := Lib.hid (Glob.next HG5.out hb); clear hb) | (go_at_call 14; (with_reducible refine (s7_ahead (w := w6) H Ab.out HG6.out Ac.out E3.out).mono ?_); rintro e w7 ⟨rfl, hb⟩; have HY7 := Lib.hid (HY6.out.trans (hb.mono HY6.out.size)); have HG7 := Lib.hid (Glob.next HG6.out hb); clear hb) | (go_at_call 14; (with_reducible refine (s7_ahead (w := w7) H Ac.out HG7.out Ab.out E4.out).mono ?_); rintro e w8 ⟨rfl, hb⟩; have HY8 := Lib.hid (HY7.out.trans (hb.mono HY7.out.size)); have HG8 := Lib.hid (Glob.next HG7.out hb); clear hb) | (go_at_call 14; (with_reducible refine (s7_ahead (w := w8) H Aa.out HG8.out Ac.out E5.out).mono ?_); rintro e w9 ⟨rfl, hb⟩; have HY9 := Lib.hid (HY8.out.trans (hb.mono HY8.out.size)); have HG9 := Lib.hid (Glob.next HG8.out hb); clear hb) | fail)
        have HX9 := Lib.hid (bel_und HY9.out)
        have HB9 := Lib.hid (HB4.out.trans (HX9.out.mono HB4.out.size))
        have Ba9 := Lib.hid (Ba4.out.next HX9.out)
        have Bb9 := Lib.hid (Bb4.out.next HX9.out)
        have Bc9 := Lib.hid (Bc4.out.next HX9.out)
        clear a0 a1 a2 a3 a4 a5 a6 b0 b1 b2 b3 b4 b5 b6 c0 c1 c2 c3 c4 c5 c6
        clear HKEEP
        have a0 := Ba9.out.c0
        have a1 := Ba9.out.c1
        have a2 := Ba9.out.c2
        have a3 := Ba9.out.c3
        have a4 := Ba9.out.c4
        have a5 := Ba9.out.c5
        have a6 := Ba9.out.c6
        cases v1 with
        | true =>
          obtain rfl := K1.out rfl
          cases v3 with
          | true =>
            obtain rfl := K2.out rfl rfl
            go_wp2_with fail
            refine (s7_ahead H Aa.out HG9.out Aa.out E0.out).mono ?_
            rintro e w10 ⟨rfl, hb⟩
            have HB10 := Lib.hid (HB9.out.trans (hb.mono HB9.out.size))
            have HG10 := Lib.hid (HG9.out.next hb)
            have Ba10 := Lib.hid (Ba9.out.next hb)
            have Bb10 := Lib.hid (Bb9.out.next hb)
            have Bc10 := Lib.hid (Bc9.out.next hb)
            clear hb
            clear a0 a1 a2 a3 a4 a5 a6
            go_wp2
            go_ret
            exact ⟨rfl, HB10.out⟩
          | false =>
            go_wp2_with fail
            refine (s7_ahead H Aa.out HG9.out Aa.out E0.out).mono ?_
            rintro e w10 ⟨rfl, hb⟩
            have HB10 := Lib.hid (HB9.out.trans (hb.mono HB9.out.size))
            have HG10 := Lib.hid (HG9.out.next hb)
            have Ba10 := Lib.hid (Ba9.out.next hb)
            have Bb10 := Lib.hid (Bb9.out.next hb)
            have Bc10 := Lib.hid (Bc9.out.next hb)
            clear hb
            clear a0 a1 a2 a3 a4 a5 a6
            go_wp2
            go_ret
            exact ⟨rfl, HB10.out⟩
        | false =>
          cases v2 with
          | true =>
            go_wp2_with fail
            refine (s7_ahead H Aa.out HG9.out Aa.out E0.out).mono ?_
            rintro e w10 ⟨rfl, hb⟩
            have HB10 := Lib.hid (HB9.out.trans (hb.mono HB9.out.size))
            have HG10 := Lib.hid (HG9.out.next hb)
            have Ba10 := Lib.hid (Ba9.out.next hb)
            have Bb10 := Lib.hid (Bb9.out.next hb)
            have Bc10 := Lib.hid (Bc9.out.next hb)
            clear hb
            clear a0 a1 a2 a3 a4 a5 a6
            go_wp2
            go_ret
            exact ⟨rfl, HB10.out⟩
          | false =>
            cases v3 with
            | true =>
              go_wp2_with fail
              refine (s7_ahead H Aa.out HG9.out Aa.out E0.out).mono ?_
              rintro e w10 ⟨rfl, hb⟩
              have HB10 := Lib.hid (HB9.out.trans (hb.mono HB9.out.size))
              have HG10 := Lib.hid (HG9.out.next hb)
              have Ba10 := Lib.hid (Ba9.out.next hb)
              have Bb10 := Lib.hid (Bb9.out.next hb)
              have Bc10 := Lib.hid (Bc9.out.next hb)
              clear hb
              clear a0 a1 a2 a3 a4 a5 a6
              go_wp2
              go_ret
              exact ⟨rfl, HB10.out⟩
            | false =>
              cases v4 with
              | true =>
                go_wp2_with fail
                refine (s7_ahead H Aa.out HG9.out Aa.out E0.out).mono ?_
                rintro e w10 ⟨rfl, hb⟩
                have HB10 := Lib.hid (HB9.out.trans (hb.mono HB9.out.size))
                have HG10 := Lib.hid (HG9.out.next hb)
                have Ba10 := Lib.hid (Ba9.out.next hb)
                have Bb10 := Lib.hid (Bb9.out.next hb)
                have Bc10 := Lib.hid (Bc9.out.next hb)
                clear hb
                clear a0 a1 a2 a3 a4 a5 a6
                go_wp2
                go_ret
                exact ⟨rfl, HB10.out⟩
              | false =>
                obtain ⟨h5', h6⟩ := K3.out rfl rfl rfl rfl
                subst h5'
                have E6 := Lib.hid h6
                clear h6
                go_wp2_with fail
                refine (s7_ahead H Aa.out HG9.out Aa.out E0.out).mono ?_
                rintro e w10 ⟨rfl, hb⟩
                have HB10 := Lib.hid (HB9.out.trans (hb.mono HB9.out.size))
                have HG10 := Lib.hid (HG9.out.next hb)
                have Ba10 := Lib.hid (Ba9.out.next hb)
                have Bb10 := Lib.hid (Bb9.out.next hb)
                have Bc10 := Lib.hid (Bc9.out.next hb)
                clear hb
                clear a0 a1 a2 a3 a4 a5 a6
                have a0 := Ba10.out.c0
                have a1 := Ba10.out.c1
                have a2 := Ba10.out.c2
                have a3 := Ba10.out.c3
                have a4 := Ba10.out.c4
                have a5 := Ba10.out.c5
                have a6 := Ba10.out.c6
                have c0 := Bc10.out.c0
                have c1 := Bc10.out.c1
                have c2 := Bc10.out.c2
                have c3 := Bc10.out.c3
                have c4 := Bc10.out.c4
                have c5 := Bc10.out.c5
                have c6 := Bc10.out.c6
                go_wp2_with fail
                refine (s7_ahead H Ac.out HG10.out Aa.out E6.out).mono ?_
                rintro e w11 ⟨rfl, hb⟩
                have HB11 := Lib.hid (HB10.out.trans (hb.mono HB10.out.size))
                have HG11 := Lib.hid (HG10.out.next hb)
                have Ba11 := Lib.hid (Ba10.out.next hb)
                have Bb11 := Lib.hid (Bb10.out.next hb)
                have Bc11 := Lib.hid (Bc10.out.next hb)
                clear hb
                clear a0 a1 a2 a3 a4 a5 a6 c0 c1 c2 c3 c4 c5 c6
                go_wp2
                go_ret
                exact ⟨rfl, HB11.out⟩

end Go.Proofs.Ytggfacginheapaa
