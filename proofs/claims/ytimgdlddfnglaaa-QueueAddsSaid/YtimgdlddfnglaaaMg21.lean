/- The program's functions of layer 7 (spec): between, Right, what they answer of any spec. Written by gen/gen_specp.py. -/
import Derived.IntWalk
import Derived.Test.YtimgdlddfnglaaaMg20
namespace Go.Proofs.Ytimgdlddfnglaaa
open Go.RowKit

theorem btw_b {x a b : Int} {w : World} {r : Bool} (h : decide (a ≤ x ∧ x ≤ b) = r) : Calls Try.prog 55 #[.int .i64 x, .int .i64 a, .int .i64 b] w fun e w' => e = .returned (.bool r) ∧ w = w' := by
  subst h
  by_cases h1 : a ≤ x
  · by_cases h2 : x ≤ b
    · have e1 : Hid (decide (a ≤ x ∧ x ≤ b) = true) := Lib.hid (decide_eq_true ⟨h1, h2⟩)
      have d1 : decide (a ≤ x) = true := decide_eq_true h1
      have d2 : decide (x ≤ b) = true := decide_eq_true h2
      clear h1 h2
      go_enter Try.func55, Try.ntmps55
      go_wp2
      go_ret
      exact ⟨ret_bool e1.out, rfl⟩
    · have e1 : Hid (decide (a ≤ x ∧ x ≤ b) = false) := Lib.hid (decide_eq_false (fun h => h2 h.2))
      have d1 : decide (a ≤ x) = true := decide_eq_true h1
      have d2 : decide (x ≤ b) = false := decide_eq_false h2
      clear h1 h2
      go_enter Try.func55, Try.ntmps55
      go_wp2
      go_ret
      exact ⟨ret_bool e1.out, rfl⟩
  · have e1 : Hid (decide (a ≤ x ∧ x ≤ b) = false) := Lib.hid (decide_eq_false (fun h => h1 h.1))
    have d1 : decide (a ≤ x) = false := decide_eq_false h1
    clear h1
    go_enter Try.func55, Try.ntmps55
    go_wp2
    go_ret
    exact ⟨ret_bool e1.out, rfl⟩
theorem btwl_b {x a b : Int} {w : World} {r : Bool} (h : decide (a ≤ x ∧ x ≤ b) = r) : Calls Try.prog 57 #[.int .i64 x, .int .i64 a, .int .i64 b] w fun e w' => e = .returned (.bool r) ∧ w = w' := by
  subst h
  by_cases h1 : a ≤ x
  · by_cases h2 : x ≤ b
    · have e1 : Hid (decide (a ≤ x ∧ x ≤ b) = true) := Lib.hid (decide_eq_true ⟨h1, h2⟩)
      have d1 : decide (a ≤ x) = true := decide_eq_true h1
      have d2 : decide (x ≤ b) = true := decide_eq_true h2
      clear h1 h2
      go_enter Try.func57, Try.ntmps57
      go_wp2
      go_ret
      exact ⟨ret_bool e1.out, rfl⟩
    · have e1 : Hid (decide (a ≤ x ∧ x ≤ b) = false) := Lib.hid (decide_eq_false (fun h => h2 h.2))
      have d1 : decide (a ≤ x) = true := decide_eq_true h1
      have d2 : decide (x ≤ b) = false := decide_eq_false h2
      clear h1 h2
      go_enter Try.func57, Try.ntmps57
      go_wp2
      go_ret
      exact ⟨ret_bool e1.out, rfl⟩
  · have e1 : Hid (decide (a ≤ x ∧ x ≤ b) = false) := Lib.hid (decide_eq_false (fun h => h1 h.1))
    have d1 : decide (a ≤ x) = false := decide_eq_false h1
    clear h1
    go_enter Try.func57, Try.ntmps57
    go_wp2
    go_ret
    exact ⟨ret_bool e1.out, rfl⟩
theorem tag_b {s : ByteArray} {w : World} {b : Bool} (hs : s.size ≤ maxLen) (h : tagB s = b) : Calls Try.prog 56 #[.string s] w fun e w' => e = .returned (.bool b) ∧ ∃ q, w' = w.drewN q := by
  subst h
  exact tag_any s w hs

set_option maxRecDepth 100000 in
set_option maxHeartbeats 4000000 in
theorem specRightV_any (sn sc sg : Int) (st : ByteArray) (sw : Bool) (sl sp : Int) (w : World) (hm : st.size ≤ maxLen) :
    Calls Try.prog 38 #[.agg #[.int .i64 sn, .int .i64 sc, .int .i64 sg, .string st, .bool sw, .int .i64 sl, .int .i64 sp]] w fun e w' => e = .returned (.bool (rightS ⟨sn, sc, sg, st, sw, sl, sp⟩)) ∧ Below w.heap.size w w' := by
  have HM := Lib.hid hm
  clear hm
  have HB : Hid (Below w.heap.size w (w.alloc (.cells #[.int .i64 sn, .int .i64 sc, .int .i64 sg, .string st, .bool sw, .int .i64 sl, .int .i64 sp] 27))) := Lib.hid ((Below.refl _ _).alloc (Nat.le_refl _) _)
  have hno0 := rightS_no (s := ⟨sn, sc, sg, st, sw, sl, sp⟩)
  have hyes0 := rightS_mk (s := ⟨sn, sc, sg, st, sw, sl, sp⟩)
  dsimp only at hno0 hyes0
  have hno := Lib.hid hno0
  have hyes := Lib.hid hyes0
  clear hno0 hyes0
  by_cases kn : 1 ≤ sn ∧ sn ≤ 64
  · have Bn := Lib.hid (decide_eq_true kn)
    by_cases kc : 0 ≤ sc ∧ sc ≤ 64
    · have Bc := Lib.hid (decide_eq_true kc)
      by_cases kg : 0 ≤ sg ∧ sg ≤ 64
      · have Bg := Lib.hid (decide_eq_true kg)
        by_cases kz : sc = 0 ∧ sg = 0 ∧ sw = false
        · have e1 := Lib.hid (hno.out (fun h => h.2.2.2.2.1 kz))
          clear hno hyes
          obtain ⟨rfl, rfl, rfl⟩ := kz
          go_enter Try.func38, Try.ntmps38
          go_wp2_with fail
          refine (btw_b Bn.out).mono ?_
          rintro e w1 ⟨rfl, rfl⟩
          go_wp2_with fail
          refine (btw_b Bc.out).mono ?_
          rintro e w1 ⟨rfl, rfl⟩
          go_wp2_with fail
          refine (btw_b Bg.out).mono ?_
          rintro e w1 ⟨rfl, rfl⟩
          go_wp2
          go_ret
          exact ⟨ret_bool e1.out, HB.out⟩
        · have KZ := Lib.hid kz
          clear kz
          cases ht : tagB st with
          | true =>
            have HT := Lib.hid ht
            clear ht
            by_cases kl : 1 ≤ sl ∧ sl ≤ 1099511627776
            · have Bl := Lib.hid (decide_eq_true kl)
              by_cases kp : -1000 ≤ sp ∧ sp ≤ 1000
              · have Bp := Lib.hid (decide_eq_true kp)
                have e1 := Lib.hid (hyes.out ⟨HT.out, kn, kc, kg, KZ.out, kl, kp⟩)
                clear hno hyes
                by_cases k0 : 0 < sc
                · have c0 : decide (0 < sc) = true := by simpa using k0
                  go_enter Try.func38, Try.ntmps38
                  go_wp2_with fail
                  refine (btw_b Bn.out).mono ?_
                  rintro e w1 ⟨rfl, rfl⟩
                  go_wp2_with fail
                  refine (btw_b Bc.out).mono ?_
                  rintro e w1 ⟨rfl, rfl⟩
                  go_wp2_with fail
                  refine (btw_b Bg.out).mono ?_
                  rintro e w1 ⟨rfl, rfl⟩
                  go_wp2_with fail
                  refine (tag_b HM.out HT.out).mono ?_
                  rintro e w1 ⟨rfl, q, rfl⟩
                  go_wp2_with fail
                  refine (btwl_b Bl.out).mono ?_
                  rintro e w1 ⟨rfl, rfl⟩
                  go_wp2_with fail
                  refine (btw_b Bp.out).mono ?_
                  rintro e w1 ⟨rfl, rfl⟩
                  go_wp2
                  go_ret
                  exact ⟨ret_bool e1.out, HB.out.trans ((bel_drew _ q).mono HB.out.size)⟩
                · have c0 : decide (0 < sc) = false := by simpa using k0
                  by_cases k1 : 0 < sg
                  · have c1 : decide (0 < sg) = true := by simpa using k1
                    go_enter Try.func38, Try.ntmps38
                    go_wp2_with fail
                    refine (btw_b Bn.out).mono ?_
                    rintro e w1 ⟨rfl, rfl⟩
                    go_wp2_with fail
                    refine (btw_b Bc.out).mono ?_
                    rintro e w1 ⟨rfl, rfl⟩
                    go_wp2_with fail
                    refine (btw_b Bg.out).mono ?_
                    rintro e w1 ⟨rfl, rfl⟩
                    go_wp2_with fail
                    refine (tag_b HM.out HT.out).mono ?_
                    rintro e w1 ⟨rfl, q, rfl⟩
                    go_wp2_with fail
                    refine (btwl_b Bl.out).mono ?_
                    rintro e w1 ⟨rfl, rfl⟩
                    go_wp2_with fail
                    refine (btw_b Bp.out).mono ?_
                    rintro e w1 ⟨rfl, rfl⟩
                    go_wp2
                    go_ret
                    exact ⟨ret_bool e1.out, HB.out.trans ((bel_drew _ q).mono HB.out.size)⟩
                  · have c1 : decide (0 < sg) = false := by simpa using k1
                    have hsw : sw = true := by
                      cases sw with
                      | true => rfl
                      | false => exact absurd ⟨by omega, by omega, rfl⟩ KZ.out
                    subst hsw
                    go_enter Try.func38, Try.ntmps38
                    go_wp2_with fail
                    refine (btw_b Bn.out).mono ?_
                    rintro e w1 ⟨rfl, rfl⟩
                    go_wp2_with fail
                    refine (btw_b Bc.out).mono ?_
                    rintro e w1 ⟨rfl, rfl⟩
                    go_wp2_with fail
                    refine (btw_b Bg.out).mono ?_
                    rintro e w1 ⟨rfl, rfl⟩
                    go_wp2_with fail
                    refine (tag_b HM.out HT.out).mono ?_
                    rintro e w1 ⟨rfl, q, rfl⟩
                    go_wp2_with fail
                    refine (btwl_b Bl.out).mono ?_
                    rintro e w1 ⟨rfl, rfl⟩
                    go_wp2_with fail
                    refine (btw_b Bp.out).mono ?_
                    rintro e w1 ⟨rfl, rfl⟩
                    go_wp2
                    go_ret
                    exact ⟨ret_bool e1.out, HB.out.trans ((bel_drew _ q).mono HB.out.size)⟩
              · have Bp := Lib.hid (decide_eq_false kp)
                have e1 := Lib.hid (hno.out (fun h => kp h.2.2.2.2.2.2))
                clear hno hyes
                by_cases k0 : 0 < sc
                · have c0 : decide (0 < sc) = true := by simpa using k0
                  go_enter Try.func38, Try.ntmps38
                  go_wp2_with fail
                  refine (btw_b Bn.out).mono ?_
                  rintro e w1 ⟨rfl, rfl⟩
                  go_wp2_with fail
                  refine (btw_b Bc.out).mono ?_
                  rintro e w1 ⟨rfl, rfl⟩
                  go_wp2_with fail
                  refine (btw_b Bg.out).mono ?_
                  rintro e w1 ⟨rfl, rfl⟩
                  go_wp2_with fail
                  refine (tag_b HM.out HT.out).mono ?_
                  rintro e w1 ⟨rfl, q, rfl⟩
                  go_wp2_with fail
                  refine (btwl_b Bl.out).mono ?_
                  rintro e w1 ⟨rfl, rfl⟩
                  go_wp2_with fail
                  refine (btw_b Bp.out).mono ?_
                  rintro e w1 ⟨rfl, rfl⟩
                  go_wp2
                  go_ret
                  exact ⟨ret_bool e1.out, HB.out.trans ((bel_drew _ q).mono HB.out.size)⟩
                · have c0 : decide (0 < sc) = false := by simpa using k0
                  by_cases k1 : 0 < sg
                  · have c1 : decide (0 < sg) = true := by simpa using k1
                    go_enter Try.func38, Try.ntmps38
                    go_wp2_with fail
                    refine (btw_b Bn.out).mono ?_
                    rintro e w1 ⟨rfl, rfl⟩
                    go_wp2_with fail
                    refine (btw_b Bc.out).mono ?_
                    rintro e w1 ⟨rfl, rfl⟩
                    go_wp2_with fail
                    refine (btw_b Bg.out).mono ?_
                    rintro e w1 ⟨rfl, rfl⟩
                    go_wp2_with fail
                    refine (tag_b HM.out HT.out).mono ?_
                    rintro e w1 ⟨rfl, q, rfl⟩
                    go_wp2_with fail
                    refine (btwl_b Bl.out).mono ?_
                    rintro e w1 ⟨rfl, rfl⟩
                    go_wp2_with fail
                    refine (btw_b Bp.out).mono ?_
                    rintro e w1 ⟨rfl, rfl⟩
                    go_wp2
                    go_ret
                    exact ⟨ret_bool e1.out, HB.out.trans ((bel_drew _ q).mono HB.out.size)⟩
                  · have c1 : decide (0 < sg) = false := by simpa using k1
                    have hsw : sw = true := by
                      cases sw with
                      | true => rfl
                      | false => exact absurd ⟨by omega, by omega, rfl⟩ KZ.out
                    subst hsw
                    go_enter Try.func38, Try.ntmps38
                    go_wp2_with fail
                    refine (btw_b Bn.out).mono ?_
                    rintro e w1 ⟨rfl, rfl⟩
                    go_wp2_with fail
                    refine (btw_b Bc.out).mono ?_
                    rintro e w1 ⟨rfl, rfl⟩
                    go_wp2_with fail
                    refine (btw_b Bg.out).mono ?_
                    rintro e w1 ⟨rfl, rfl⟩
                    go_wp2_with fail
                    refine (tag_b HM.out HT.out).mono ?_
                    rintro e w1 ⟨rfl, q, rfl⟩
                    go_wp2_with fail
                    refine (btwl_b Bl.out).mono ?_
                    rintro e w1 ⟨rfl, rfl⟩
                    go_wp2_with fail
                    refine (btw_b Bp.out).mono ?_
                    rintro e w1 ⟨rfl, rfl⟩
                    go_wp2
                    go_ret
                    exact ⟨ret_bool e1.out, HB.out.trans ((bel_drew _ q).mono HB.out.size)⟩
            · have Bl := Lib.hid (decide_eq_false kl)
              have e1 := Lib.hid (hno.out (fun h => kl h.2.2.2.2.2.1))
              clear hno hyes
              by_cases k0 : 0 < sc
              · have c0 : decide (0 < sc) = true := by simpa using k0
                go_enter Try.func38, Try.ntmps38
                go_wp2_with fail
                refine (btw_b Bn.out).mono ?_
                rintro e w1 ⟨rfl, rfl⟩
                go_wp2_with fail
                refine (btw_b Bc.out).mono ?_
                rintro e w1 ⟨rfl, rfl⟩
                go_wp2_with fail
                refine (btw_b Bg.out).mono ?_
                rintro e w1 ⟨rfl, rfl⟩
                go_wp2_with fail
                refine (tag_b HM.out HT.out).mono ?_
                rintro e w1 ⟨rfl, q, rfl⟩
                go_wp2_with fail
                refine (btwl_b Bl.out).mono ?_
                rintro e w1 ⟨rfl, rfl⟩
                go_wp2
                go_ret
                exact ⟨ret_bool e1.out, HB.out.trans ((bel_drew _ q).mono HB.out.size)⟩
              · have c0 : decide (0 < sc) = false := by simpa using k0
                by_cases k1 : 0 < sg
                · have c1 : decide (0 < sg) = true := by simpa using k1
                  go_enter Try.func38, Try.ntmps38
                  go_wp2_with fail
                  refine (btw_b Bn.out).mono ?_
                  rintro e w1 ⟨rfl, rfl⟩
                  go_wp2_with fail
                  refine (btw_b Bc.out).mono ?_
                  rintro e w1 ⟨rfl, rfl⟩
                  go_wp2_with fail
                  refine (btw_b Bg.out).mono ?_
                  rintro e w1 ⟨rfl, rfl⟩
                  go_wp2_with fail
                  refine (tag_b HM.out HT.out).mono ?_
                  rintro e w1 ⟨rfl, q, rfl⟩
                  go_wp2_with fail
                  refine (btwl_b Bl.out).mono ?_
                  rintro e w1 ⟨rfl, rfl⟩
                  go_wp2
                  go_ret
                  exact ⟨ret_bool e1.out, HB.out.trans ((bel_drew _ q).mono HB.out.size)⟩
                · have c1 : decide (0 < sg) = false := by simpa using k1
                  have hsw : sw = true := by
                    cases sw with
                    | true => rfl
                    | false => exact absurd ⟨by omega, by omega, rfl⟩ KZ.out
                  subst hsw
                  go_enter Try.func38, Try.ntmps38
                  go_wp2_with fail
                  refine (btw_b Bn.out).mono ?_
                  rintro e w1 ⟨rfl, rfl⟩
                  go_wp2_with fail
                  refine (btw_b Bc.out).mono ?_
                  rintro e w1 ⟨rfl, rfl⟩
                  go_wp2_with fail
                  refine (btw_b Bg.out).mono ?_
                  rintro e w1 ⟨rfl, rfl⟩
                  go_wp2_with fail
                  refine (tag_b HM.out HT.out).mono ?_
                  rintro e w1 ⟨rfl, q, rfl⟩
                  go_wp2_with fail
                  refine (btwl_b Bl.out).mono ?_
                  rintro e w1 ⟨rfl, rfl⟩
                  go_wp2
                  go_ret
                  exact ⟨ret_bool e1.out, HB.out.trans ((bel_drew _ q).mono HB.out.size)⟩
          | false =>
            have HT := Lib.hid ht
            clear ht
            have e1 := Lib.hid (hno.out (fun h => by have := h.1; rw [HT.out] at this; cases this))
            clear hno hyes
            by_cases k0 : 0 < sc
            · have c0 : decide (0 < sc) = true := by simpa using k0
              go_enter Try.func38, Try.ntmps38
              go_wp2_with fail
              refine (btw_b Bn.out).mono ?_
              rintro e w1 ⟨rfl, rfl⟩
              go_wp2_with fail
              refine (btw_b Bc.out).mono ?_
              rintro e w1 ⟨rfl, rfl⟩
              go_wp2_with fail
              refine (btw_b Bg.out).mono ?_
              rintro e w1 ⟨rfl, rfl⟩
              go_wp2_with fail
              refine (tag_b HM.out HT.out).mono ?_
              rintro e w1 ⟨rfl, q, rfl⟩
              go_wp2
              go_ret
              exact ⟨ret_bool e1.out, HB.out.trans ((bel_drew _ q).mono HB.out.size)⟩
            · have c0 : decide (0 < sc) = false := by simpa using k0
              by_cases k1 : 0 < sg
              · have c1 : decide (0 < sg) = true := by simpa using k1
                go_enter Try.func38, Try.ntmps38
                go_wp2_with fail
                refine (btw_b Bn.out).mono ?_
                rintro e w1 ⟨rfl, rfl⟩
                go_wp2_with fail
                refine (btw_b Bc.out).mono ?_
                rintro e w1 ⟨rfl, rfl⟩
                go_wp2_with fail
                refine (btw_b Bg.out).mono ?_
                rintro e w1 ⟨rfl, rfl⟩
                go_wp2_with fail
                refine (tag_b HM.out HT.out).mono ?_
                rintro e w1 ⟨rfl, q, rfl⟩
                go_wp2
                go_ret
                exact ⟨ret_bool e1.out, HB.out.trans ((bel_drew _ q).mono HB.out.size)⟩
              · have c1 : decide (0 < sg) = false := by simpa using k1
                have hsw : sw = true := by
                  cases sw with
                  | true => rfl
                  | false => exact absurd ⟨by omega, by omega, rfl⟩ KZ.out
                subst hsw
                go_enter Try.func38, Try.ntmps38
                go_wp2_with fail
                refine (btw_b Bn.out).mono ?_
                rintro e w1 ⟨rfl, rfl⟩
                go_wp2_with fail
                refine (btw_b Bc.out).mono ?_
                rintro e w1 ⟨rfl, rfl⟩
                go_wp2_with fail
                refine (btw_b Bg.out).mono ?_
                rintro e w1 ⟨rfl, rfl⟩
                go_wp2_with fail
                refine (tag_b HM.out HT.out).mono ?_
                rintro e w1 ⟨rfl, q, rfl⟩
                go_wp2
                go_ret
                exact ⟨ret_bool e1.out, HB.out.trans ((bel_drew _ q).mono HB.out.size)⟩
      · have Bg := Lib.hid (decide_eq_false kg)
        have e1 := Lib.hid (hno.out (fun h => kg h.2.2.2.1))
        clear hno hyes
        go_enter Try.func38, Try.ntmps38
        go_wp2_with fail
        refine (btw_b Bn.out).mono ?_
        rintro e w1 ⟨rfl, rfl⟩
        go_wp2_with fail
        refine (btw_b Bc.out).mono ?_
        rintro e w1 ⟨rfl, rfl⟩
        go_wp2_with fail
        refine (btw_b Bg.out).mono ?_
        rintro e w1 ⟨rfl, rfl⟩
        go_wp2
        go_ret
        exact ⟨ret_bool e1.out, HB.out⟩
    · have Bc := Lib.hid (decide_eq_false kc)
      have e1 := Lib.hid (hno.out (fun h => kc h.2.2.1))
      clear hno hyes
      go_enter Try.func38, Try.ntmps38
      go_wp2_with fail
      refine (btw_b Bn.out).mono ?_
      rintro e w1 ⟨rfl, rfl⟩
      go_wp2_with fail
      refine (btw_b Bc.out).mono ?_
      rintro e w1 ⟨rfl, rfl⟩
      go_wp2
      go_ret
      exact ⟨ret_bool e1.out, HB.out⟩
  · have Bn := Lib.hid (decide_eq_false kn)
    have e1 := Lib.hid (hno.out (fun h => kn h.2.1))
    clear hno hyes
    go_enter Try.func38, Try.ntmps38
    go_wp2_with fail
    refine (btw_b Bn.out).mono ?_
    rintro e w1 ⟨rfl, rfl⟩
    go_wp2
    go_ret
    exact ⟨ret_bool e1.out, HB.out⟩

theorem specRight_any (s : Sp) (w : World) (hs : SAsk s) :
    Calls Try.prog 38 #[spV s] w fun e w' => e = .returned (.bool (rightS s)) ∧ Below w.heap.size w w' := by
  obtain ⟨sn, sc, sg, st, sw, sl, sp⟩ := s
  exact specRightV_any sn sc sg st sw sl sp w hs.tag
theorem specRight_b {s : Sp} {w : World} {b : Bool} (hs : SAsk s) (h : rightS s = b) :
    Calls Try.prog 38 #[.agg #[.int .i64 s.nodes, .int .i64 s.cores, .int .i64 s.gpus, .string s.tag, .bool s.whole, .int .i64 s.long, .int .i64 s.prio]] w fun e w' => e = .returned (.bool b) ∧ Below w.heap.size w w' := by
  subst h
  exact specRight_any s w hs

end Go.Proofs.Ytimgdlddfnglaaa
