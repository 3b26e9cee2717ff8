/- The program's functions of layer 7 (spec): between, Right, what they answer of any spec. Written by gen/gen_specp.py. The program's suiting of layer 9: the nodes that suit. Written by gen/gen_matchpsuit2.py. The program's most and take of layer 9: what is got in the nodes that are chosen. The program's take of layer 9: what is got in the nodes that are chosen. Written by gen/gen_matchptake.py. -/
import Derived.IntWalk
import Derived.Test.YtchogijdkagiiaaGreatDoorMg04
import Derived.Test.YtchogijdkagiiaaGreatDoorMg12
import Derived.Test.YtchogijdkagiiaaGreatDoorMg07
import Derived.Test.YtchogijdkagiiaaGreatDoorMg14
import Derived.Deep.QuietTactic
import Derived.Test.YtchogijdkagiiaaGreatDoorMg03
import Derived.Test.YtchogijdkagiiaaGreatDoorMg13
namespace Go.Proofs.YtchogijdkagiiaaGreatDoor
open Go.RowKit

theorem btw_b {x a b : Int} {w : World} {r : Bool} (h : decide (a ≤ x ∧ x ≤ b) = r) : Calls Tryz.prog 55 #[.int .i64 x, .int .i64 a, .int .i64 b] w fun e w' => e = .returned (.bool r) ∧ w = w' := by
  subst h
  by_cases h1 : a ≤ x
  · by_cases h2 : x ≤ b
    · have e1 : Hid (decide (a ≤ x ∧ x ≤ b) = true) := Lib.hid (decide_eq_true ⟨h1, h2⟩)
      have d1 : decide (a ≤ x) = true := decide_eq_true h1
      have d2 : decide (x ≤ b) = true := decide_eq_true h2
      clear h1 h2
      go_enter Tryz.func55, Tryz.ntmps55
      go_wp2
      go_ret
      exact ⟨ret_bool e1.out, rfl⟩
    · have e1 : Hid (decide (a ≤ x ∧ x ≤ b) = false) := Lib.hid (decide_eq_false (fun h => h2 h.2))
      have d1 : decide (a ≤ x) = true := decide_eq_true h1
      have d2 : decide (x ≤ b) = false := decide_eq_false h2
      clear h1 h2
      go_enter Tryz.func55, Tryz.ntmps55
      go_wp2
      go_ret
      exact ⟨ret_bool e1.out, rfl⟩
  · have e1 : Hid (decide (a ≤ x ∧ x ≤ b) = false) := Lib.hid (decide_eq_false (fun h => h1 h.1))
    have d1 : decide (a ≤ x) = false := decide_eq_false h1
    clear h1
    go_enter Tryz.func55, Tryz.ntmps55
    go_wp2
    go_ret
    exact ⟨ret_bool e1.out, rfl⟩
theorem btwl_b {x a b : Int} {w : World} {r : Bool} (h : decide (a ≤ x ∧ x ≤ b) = r) : Calls Tryz.prog 57 #[.int .i64 x, .int .i64 a, .int .i64 b] w fun e w' => e = .returned (.bool r) ∧ w = w' := by
  subst h
  by_cases h1 : a ≤ x
  · by_cases h2 : x ≤ b
    · have e1 : Hid (decide (a ≤ x ∧ x ≤ b) = true) := Lib.hid (decide_eq_true ⟨h1, h2⟩)
      have d1 : decide (a ≤ x) = true := decide_eq_true h1
      have d2 : decide (x ≤ b) = true := decide_eq_true h2
      clear h1 h2
      go_enter Tryz.func57, Tryz.ntmps57
      go_wp2
      go_ret
      exact ⟨ret_bool e1.out, rfl⟩
    · have e1 : Hid (decide (a ≤ x ∧ x ≤ b) = false) := Lib.hid (decide_eq_false (fun h => h2 h.2))
      have d1 : decide (a ≤ x) = true := decide_eq_true h1
      have d2 : decide (x ≤ b) = false := decide_eq_false h2
      clear h1 h2
      go_enter Tryz.func57, Tryz.ntmps57
      go_wp2
      go_ret
      exact ⟨ret_bool e1.out, rfl⟩
  · have e1 : Hid (decide (a ≤ x ∧ x ≤ b) = false) := Lib.hid (decide_eq_false (fun h => h1 h.1))
    have d1 : decide (a ≤ x) = false := decide_eq_false h1
    clear h1
    go_enter Tryz.func57, Tryz.ntmps57
    go_wp2
    go_ret
    exact ⟨ret_bool e1.out, rfl⟩
theorem tag_b {s : ByteArray} {w : World} {b : Bool} (hs : s.size ≤ maxLen) (h : tagB s = b) : Calls Tryz.prog 56 #[.string s] w fun e w' => e = .returned (.bool b) ∧ ∃ q, w' = w.drewN q := by
  subst h
  exact tag_any s w hs

set_option maxRecDepth 100000 in
set_option maxHeartbeats 4000000 in
theorem specRightV_any (sn sc sg : Int) (st : ByteArray) (sw : Bool) (sl sp : Int) (w : World) (hm : st.size ≤ maxLen) :
    Calls Tryz.prog 33 #[.agg #[.int .i64 sn, .int .i64 sc, .int .i64 sg, .string st, .bool sw, .int .i64 sl, .int .i64 sp]] w fun e w' => e = .returned (.bool (rightS ⟨sn, sc, sg, st, sw, sl, sp⟩)) ∧ Below w.heap.size w w' := by
  have HM := Lib.hid hm
  clear hm
  have HB : Hid (Below w.heap.size w (w.alloc (.cells #[.int .i64 sn, .int .i64 sc, .int .i64 sg, .string st, .bool sw, .int .i64 sl, .int .i64 sp] 27))) := Lib.hid ((Below.refl _ _).alloc (Nat.le_refl _) _)
  have hno0 := rightS_no (s := ⟨sn, sc, sg, st, sw, sl, sp⟩)
  have hyes0 := rightS_mk (s := ⟨sn, sc, sg, st, sw, sl, sp⟩)
  dsimp only at hno0 hyes0
  have hno := Lib.hid hno0
  have hyes := Lib.hid hyes0
  clear hno0 hyes0
  by_cases kn : 1 ≤ sn ∧ sn ≤ 64
  · have Bn := Lib.hid (decide_eq_true kn)
    by_cases kc : 0 ≤ sc ∧ sc ≤ 64
    · have Bc := Lib.hid (decide_eq_true kc)
      by_cases kg : 0 ≤ sg ∧ sg ≤ 64
      · have Bg := Lib.hid (decide_eq_true kg)
        by_cases kz : sc = 0 ∧ sg = 0 ∧ sw = false
        · have e1 := Lib.hid (hno.out (fun h => h.2.2.2.2.1 kz))
          clear hno hyes
          obtain ⟨rfl, rfl, rfl⟩ := kz
          go_enter Tryz.func33, Tryz.ntmps33
          go_wp2_with fail
          refine (btw_b Bn.out).mono ?_
          rintro e w1 ⟨rfl, rfl⟩
          go_wp2_with fail
          refine (btw_b Bc.out).mono ?_
          rintro e w1 ⟨rfl, rfl⟩
          go_wp2_with fail
          refine (btw_b Bg.out).mono ?_
          rintro e w1 ⟨rfl, rfl⟩
          go_wp2
          go_ret
          exact ⟨ret_bool e1.out, HB.out⟩
        · have KZ := Lib.hid kz
          clear kz
          cases ht : tagB st with
          | true =>
            have HT := Lib.hid ht
            clear ht
            by_cases kl : 1 ≤ sl ∧ sl ≤ 1099511627776
            · have Bl := Lib.hid (decide_eq_true kl)
              by_cases kp : -1000 ≤ sp ∧ sp ≤ 1000
              · have Bp := Lib.hid (decide_eq_true kp)
                have e1 := Lib.hid (hyes.out ⟨HT.out, kn, kc, kg, KZ.out, kl, kp⟩)
                clear hno hyes
                by_cases k0 : 0 < sc
                · have c0 : decide (0 < sc) = true := by simpa using k0
                  go_enter Tryz.func33, Tryz.ntmps33
                  go_wp2_with fail
                  refine (btw_b Bn.out).mono ?_
                  rintro e w1 ⟨rfl, rfl⟩
                  go_wp2_with fail
                  refine (btw_b Bc.out).mono ?_
                  rintro e w1 ⟨rfl, rfl⟩
                  go_wp2_with fail
                  refine (btw_b Bg.out).mono ?_
                  rintro e w1 ⟨rfl, rfl⟩
                  go_wp2_with fail
                  refine (tag_b HM.out HT.out).mono ?_
                  rintro e w1 ⟨rfl, q, rfl⟩
                  go_wp2_with fail
                  refine (btwl_b Bl.out).mono ?_
                  rintro e w1 ⟨rfl, rfl⟩
                  go_wp2_with fail
                  refine (btw_b Bp.out).mono ?_
                  rintro e w1 ⟨rfl, rfl⟩
                  go_wp2
                  go_ret
                  exact ⟨ret_bool e1.out, HB.out.trans ((bel_drew _ q).mono HB.out.size)⟩
                · have c0 : decide (0 < sc) = false := by simpa using k0
                  by_cases k1 : 0 < sg
                  · have c1 : decide (0 < sg) = true := by simpa using k1
                    go_enter Tryz.func33, Tryz.ntmps33
                    go_wp2_with fail
                    refine (btw_b Bn.out).mono ?_
                    rintro e w1 ⟨rfl, rfl⟩
                    go_wp2_with fail
                    refine (btw_b Bc.out).mono ?_
                    rintro e w1 ⟨rfl, rfl⟩
                    go_wp2_with fail
                    refine (btw_b Bg.out).mono ?_
                    rintro e w1 ⟨rfl, rfl⟩
                    go_wp2_with fail
                    refine (tag_b HM.out HT.out).mono ?_
                    rintro e w1 ⟨rfl, q, rfl⟩
                    go_wp2_with fail
                    refine (btwl_b Bl.out).mono ?_
                    rintro e w1 ⟨rfl, rfl⟩
                    go_wp2_with fail
                    refine (btw_b Bp.out).mono ?_
                    rintro e w1 ⟨rfl, rfl⟩
                    go_wp2
                    go_ret
                    exact ⟨ret_bool e1.out, HB.out.trans ((bel_drew _ q).mono HB.out.size)⟩
                  · have c1 : decide (0 < sg) = false := by simpa using k1
                    have hsw : sw = true := by
                      cases sw with
                      | true => rfl
                      | false => exact absurd ⟨by omega, by omega, rfl⟩ KZ.out
                    subst hsw
                    go_enter Tryz.func33, Tryz.ntmps33
                    go_wp2_with fail
                    refine (btw_b Bn.out).mono ?_
                    rintro e w1 ⟨rfl, rfl⟩
                    go_wp2_with fail
                    refine (btw_b Bc.out).mono ?_
                    rintro e w1 ⟨rfl, rfl⟩
                    go_wp2_with fail
                    refine (btw_b Bg.out).mono ?_
                    rintro e w1 ⟨rfl, rfl⟩
                    go_wp2_with fail
                    refine (tag_b HM.out HT.out).mono ?_
                    rintro e w1 ⟨rfl, q, rfl⟩
                    go_wp2_with fail
                    refine (btwl_b Bl.out).mono ?_
                    rintro e w1 ⟨rfl, rfl⟩
                    go_wp2_with fail
                    refine (btw_b Bp.out).mono ?_
                    rintro e w1 ⟨rfl, rfl⟩
                    go_wp2
                    go_ret
                    exact ⟨ret_bool e1.out, HB.out.trans ((bel_drew _ q).mono HB.out.size)⟩
              · have Bp := Lib.hid (decide_eq_false kp)
                have e1 := Lib.hid (hno.out (fun h => kp h.2.2.2.2.2.2))
                clear hno hyes
                by_cases k0 : 0 < sc
                · have c0 : decide (0 < sc) = true := by simpa using k0
                  go_enter Tryz.func33, Tryz.ntmps33
                  go_wp2_with fail
                  refine (btw_b Bn.out).mono ?_
                  rintro e w1 ⟨rfl, rfl⟩
                  go_wp2_with fail
                  refine (btw_b Bc.out).mono ?_
                  rintro e w1 ⟨rfl, rfl⟩
                  go_wp2_with fail
                  refine (btw_b Bg.out).mono ?_
                  rintro e w1 ⟨rfl, rfl⟩
                  go_wp2_with fail
                  refine (tag_b HM.out HT.out).mono ?_
                  rintro e w1 ⟨rfl, q, rfl⟩
                  go_wp2_with fail
                  refine (btwl_b Bl.out).mono ?_
                  rintro e w1 ⟨rfl, rfl⟩
                  go_wp2_with fail
                  refine (btw_b Bp.out).mono ?_
                  rintro e w1 ⟨rfl, rfl⟩
                  go_wp2
                  go_ret
                  exact ⟨ret_bool e1.out, HB.out.trans ((bel_drew _ q).mono HB.out.size)⟩
                · have c0 : decide (0 < sc) = false := by simpa using k0
                  by_cases k1 : 0 < sg
                  · have c1 : decide (0 < sg) = true := by simpa using k1
                    go_enter Tryz.func33, Tryz.ntmps33
                    go_wp2_with fail
                    refine (btw_b Bn.out).mono ?_
                    rintro e w1 ⟨rfl, rfl⟩
                    go_wp2_with fail
                    refine (btw_b Bc.out).mono ?_
                    rintro e w1 ⟨rfl, rfl⟩
                    go_wp2_with fail
                    refine (btw_b Bg.out).mono ?_
                    rintro e w1 ⟨rfl, rfl⟩
                    go_wp2_with fail
                    refine (tag_b HM.out HT.out).mono ?_
                    rintro e w1 ⟨rfl, q, rfl⟩
                    go_wp2_with fail
                    refine (btwl_b Bl.out).mono ?_
                    rintro e w1 ⟨rfl, rfl⟩
                    go_wp2_with fail
                    refine (btw_b Bp.out).mono ?_
                    rintro e w1 ⟨rfl, rfl⟩
                    go_wp2
                    go_ret
                    exact ⟨ret_bool e1.out, HB.out.trans ((bel_drew _ q).mono HB.out.size)⟩
                  · have c1 : decide (0 < sg) = false := by simpa using k1
                    have hsw : sw = true := by
                      cases sw with
                      | true => rfl
                      | false => exact absurd ⟨by omega, by omega, rfl⟩ KZ.out
                    subst hsw
                    go_enter Tryz.func33, Tryz.ntmps33
                    go_wp2_with fail
                    refine (btw_b Bn.out).mono ?_
                    rintro e w1 ⟨rfl, rfl⟩
                    go_wp2_with fail
                    refine (btw_b Bc.out).mono ?_
                    rintro e w1 ⟨rfl, rfl⟩
                    go_wp2_with fail
                    refine (btw_b Bg.out).mono ?_
                    rintro e w1 ⟨rfl, rfl⟩
                    go_wp2_with fail
                    refine (tag_b HM.out HT.out).mono ?_
                    rintro e w1 ⟨rfl, q, rfl⟩
                    go_wp2_with fail
                    refine (btwl_b Bl.out).mono ?_
                    rintro e w1 ⟨rfl, rfl⟩
                    go_wp2_with fail
                    refine (btw_b Bp.out).mono ?_
                    rintro e w1 ⟨rfl, rfl⟩
                    go_wp2
                    go_ret
                    exact ⟨ret_bool e1.out, HB.out.trans ((bel_drew _ q).mono HB.out.size)⟩
            · have Bl := Lib.hid (decide_eq_false kl)
              have e1 := Lib.hid (hno.out (fun h => kl h.2.2.2.2.2.1))
              clear hno hyes
              by_cases k0 : 0 < sc
              · have c0 : decide (0 < sc) = true := by simpa using k0
                go_enter Tryz.func33, Tryz.ntmps33
                go_wp2_with fail
                refine (btw_b Bn.out).mono ?_
                rintro e w1 ⟨rfl, rfl⟩
                go_wp2_with fail
                refine (btw_b Bc.out).mono ?_
                rintro e w1 ⟨rfl, rfl⟩
                go_wp2_with fail
                refine (btw_b Bg.out).mono ?_
                rintro e w1 ⟨rfl, rfl⟩
                go_wp2_with fail
                refine (tag_b HM.out HT.out).mono ?_
                rintro e w1 ⟨rfl, q, rfl⟩
                go_wp2_with fail
                refine (btwl_b Bl.out).mono ?_
                rintro e w1 ⟨rfl, rfl⟩
                go_wp2
                go_ret
                exact ⟨ret_bool e1.out, HB.out.trans ((bel_drew _ q).mono HB.out.size)⟩
              · have c0 : decide (0 < sc) = false := by simpa using k0
                by_cases k1 : 0 < sg
                · have c1 : decide (0 < sg) = true := by simpa using k1
                  go_enter Tryz.func33, Tryz.ntmps33
                  go_wp2_with fail
                  refine (btw_b Bn.out).mono ?_
                  rintro e w1 ⟨rfl, rfl⟩
                  go_wp2_with fail
                  refine (btw_b Bc.out).mono ?_
                  rintro e w1 ⟨rfl, rfl⟩
                  go_wp2_with fail
                  refine (btw_b Bg.out).mono ?_
                  rintro e w1 ⟨rfl, rfl⟩
                  go_wp2_with fail
                  refine (tag_b HM.out HT.out).mono ?_
                  rintro e w1 ⟨rfl, q, rfl⟩
                  go_wp2_with fail
                  refine (btwl_b Bl.out).mono ?_
                  rintro e w1 ⟨rfl, rfl⟩
                  go_wp2
                  go_ret
                  exact ⟨ret_bool e1.out, HB.out.trans ((bel_drew _ q).mono HB.out.size)⟩
                · have c1 : decide (0 < sg) = false := by simpa using k1
                  have hsw : sw = true := by
                    cases sw with
                    | true => rfl
                    | false => exact absurd ⟨by omega, by omega, rfl⟩ KZ.out
                  subst hsw
                  go_enter Tryz.func33, Tryz.ntmps33
                  go_wp2_with fail
                  refine (btw_b Bn.out).mono ?_
                  rintro e w1 ⟨rfl, rfl⟩
                  go_wp2_with fail
                  refine (btw_b Bc.out).mono ?_
                  rintro e w1 ⟨rfl, rfl⟩
                  go_wp2_with fail
                  refine (btw_b Bg.out).mono ?_
                  rintro e w1 ⟨rfl, rfl⟩
                  go_wp2_with fail
                  refine (tag_b HM.out HT.out).mono ?_
                  rintro e w1 ⟨rfl, q, rfl⟩
                  go_wp2_with fail
                  refine (btwl_b Bl.out).mono ?_
                  rintro e w1 ⟨rfl, rfl⟩
                  go_wp2
                  go_ret
                  exact ⟨ret_bool e1.out, HB.out.trans ((bel_drew _ q).mono HB.out.size)⟩
          | false =>
            have HT := Lib.hid ht
            clear ht
            have e1 := Lib.hid (hno.out (fun h => by have := h.1; rw [HT.out] at this; cases this))
            clear hno hyes
            by_cases k0 : 0 < sc
            · have c0 : decide (0 < sc) = true := by simpa using k0
              go_enter Tryz.func33, Tryz.ntmps33
              go_wp2_with fail
              refine (btw_b Bn.out).mono ?_
              rintro e w1 ⟨rfl, rfl⟩
              go_wp2_with fail
              refine (btw_b Bc.out).mono ?_
              rintro e w1 ⟨rfl, rfl⟩
              go_wp2_with fail
              refine (btw_b Bg.out).mono ?_
              rintro e w1 ⟨rfl, rfl⟩
              go_wp2_with fail
              refine (tag_b HM.out HT.out).mono ?_
              rintro e w1 ⟨rfl, q, rfl⟩
              go_wp2
              go_ret
              exact ⟨ret_bool e1.out, HB.out.trans ((bel_drew _ q).mono HB.out.size)⟩
            · have c0 : decide (0 < sc) = false := by simpa using k0
              by_cases k1 : 0 < sg
              · have c1 : decide (0 < sg) = true := by simpa using k1
                go_enter Tryz.func33, Tryz.ntmps33
                go_wp2_with fail
                refine (btw_b Bn.out).mono ?_
                rintro e w1 ⟨rfl, rfl⟩
                go_wp2_with fail
                refine (btw_b Bc.out).mono ?_
                rintro e w1 ⟨rfl, rfl⟩
                go_wp2_with fail
                refine (btw_b Bg.out).mono ?_
                rintro e w1 ⟨rfl, rfl⟩
                go_wp2_with fail
                refine (tag_b HM.out HT.out).mono ?_
                rintro e w1 ⟨rfl, q, rfl⟩
                go_wp2
                go_ret
                exact ⟨ret_bool e1.out, HB.out.trans ((bel_drew _ q).mono HB.out.size)⟩
              · have c1 : decide (0 < sg) = false := by simpa using k1
                have hsw : sw = true := by
                  cases sw with
                  | true => rfl
                  | false => exact absurd ⟨by omega, by omega, rfl⟩ KZ.out
                subst hsw
                go_enter Tryz.func33, Tryz.ntmps33
                go_wp2_with fail
                refine (btw_b Bn.out).mono ?_
                rintro e w1 ⟨rfl, rfl⟩
                go_wp2_with fail
                refine (btw_b Bc.out).mono ?_
                rintro e w1 ⟨rfl, rfl⟩
                go_wp2_with fail
                refine (btw_b Bg.out).mono ?_
                rintro e w1 ⟨rfl, rfl⟩
                go_wp2_with fail
                refine (tag_b HM.out HT.out).mono ?_
                rintro e w1 ⟨rfl, q, rfl⟩
                go_wp2
                go_ret
                exact ⟨ret_bool e1.out, HB.out.trans ((bel_drew _ q).mono HB.out.size)⟩
      · have Bg := Lib.hid (decide_eq_false kg)
        have e1 := Lib.hid (hno.out (fun h => kg h.2.2.2.1))
        clear hno hyes
        go_enter Tryz.func33, Tryz.ntmps33
        go_wp2_with fail
        refine (btw_b Bn.out).mono ?_
        rintro e w1 ⟨rfl, rfl⟩
        go_wp2_with fail
        refine (btw_b Bc.out).mono ?_
        rintro e w1 ⟨rfl, rfl⟩
        go_wp2_with fail
        refine (btw_b Bg.out).mono ?_
        rintro e w1 ⟨rfl, rfl⟩
        go_wp2
        go_ret
        exact ⟨ret_bool e1.out, HB.out⟩
    · have Bc := Lib.hid (decide_eq_false kc)
      have e1 := Lib.hid (hno.out (fun h => kc h.2.2.1))
      clear hno hyes
      go_enter Tryz.func33, Tryz.ntmps33
      go_wp2_with fail
      refine (btw_b Bn.out).mono ?_
      rintro e w1 ⟨rfl, rfl⟩
      go_wp2_with fail
      refine (btw_b Bc.out).mono ?_
      rintro e w1 ⟨rfl, rfl⟩
      go_wp2
      go_ret
      exact ⟨ret_bool e1.out, HB.out⟩
  · have Bn := Lib.hid (decide_eq_false kn)
    have e1 := Lib.hid (hno.out (fun h => kn h.2.1))
    clear hno hyes
    go_enter Tryz.func33, Tryz.ntmps33
    go_wp2_with fail
    refine (btw_b Bn.out).mono ?_
    rintro e w1 ⟨rfl, rfl⟩
    go_wp2
    go_ret
    exact ⟨ret_bool e1.out, HB.out⟩

theorem specRight_any (s : Sp) (w : World) (hs : SAsk s) :
    Calls Tryz.prog 33 #[spV s] w fun e w' => e = .returned (.bool (rightS s)) ∧ Below w.heap.size w w' := by
  obtain ⟨sn, sc, sg, st, sw, sl, sp⟩ := s
  exact specRightV_any sn sc sg st sw sl sp w hs.tag
theorem specRight_b {s : Sp} {w : World} {b : Bool} (hs : SAsk s) (h : rightS s = b) :
    Calls Tryz.prog 33 #[.agg #[.int .i64 s.nodes, .int .i64 s.cores, .int .i64 s.gpus, .string s.tag, .bool s.whole, .int .i64 s.long, .int .i64 s.prio]] w fun e w' => e = .returned (.bool b) ∧ Below w.heap.size w w' := by
  subst h
  exact specRight_any s w hs

end Go.Proofs.YtchogijdkagiiaaGreatDoor

namespace Go.Proofs.YtchogijdkagiiaaGreatDoor
open Go.RowKit

/-- a variable in a block of its own, made later than w3 -/
structure Box1 (w3 w : World) (b : Nat) (v : Value) : Prop where
  at' : w.heap[b]? = some (.cells #[v] 120 (0, 0))
  new : w3.heap.size ≤ b
section
variable {w3 w w' : World} {b k n : Nat} {v u : Value} {T : Nat → Nat → Int}
theorem Box1.lt (h : Box1 w3 w b v) : b < w.heap.size := (Array.getElem?_eq_some_iff.1 h.at').1
theorem Box1.cell (h : Box1 w3 w b v) : w.cell? ⟨b, 0, none⟩ = some v := (cell_of_row w b 0 _ _ (0, 0) h.at').trans rfl
theorem Box1.frozen (h : Box1 w3 w b v) : w.frozen? ⟨b, 0, none⟩ = false := frozen_of_row w b 0 _ _ h.at'
theorem Box1.next (h : Box1 w3 w b v) (hb : Below w.heap.size w w') : Box1 w3 w' b v := ⟨(hb.block _ h.lt).trans h.at', h.new⟩
theorem Box1.made (hb : w3.heap.size ≤ w.heap.size) (v : Value) : Box1 w3 (w.alloc (.cells #[v] 120)) w.heap.size v := ⟨heap_alloc_new w _, hb⟩
theorem Box1.set (h : Box1 w3 w b v) (u : Value) : Box1 w3 (w.setCell ⟨b, 0, none⟩ u) b u := ⟨by rw [heap_setCell_same w b 0 _ _ _ h.at']; rfl, h.new⟩
theorem Box1.other (h : Box1 w3 w b v) (hk : k ≠ b) (u : Value) : Box1 w3 (w.setCell ⟨k, 0, none⟩ u) b v := ⟨by rw [heap_setCell_other w _ _ _ (by show b ≠ k; exact fun e => hk e.symm)]; exact h.at', h.new⟩
theorem Tab.apart {g : Nat} (h : Tab w3 g n T w) (hb : Box1 w3 w b v) : b ≠ g := by
  rintro rfl
  rcases h.own.2 with ⟨e, _⟩ | ⟨g', cap, cur, e, _, e3, _⟩
  · injection e with e _ _
    cases e
  · injection e with e _ _
    injection e with e
    injection e with e _ _
    subst e
    rw [hb.at'] at e3
    injection e3 with e3
    injection e3 with _ e3 _
    cases e3
theorem Tab.other {g : Nat} (h : Tab w3 g n T w) (hb : Box1 w3 w b v) (u : Value) : Tab w3 g n T (w.setCell ⟨b, 0, none⟩ u) := by
  have hne := h.apart hb
  refine ⟨⟨h.own.1, h.own.2.imp id ?_⟩, h.bel.setCell (p := ⟨b, 0, none⟩) hb.new _⟩
  rintro ⟨g', cap, cur, e1, e2, e3, e4⟩
  refine ⟨g', cap, cur, e1, e2, ?_, e4⟩
  have eg : g = g' := by
    injection e1 with e1 _ _
    injection e1 with e1
    injection e1
  rw [heap_setCell_other w _ _ _ (by show g' ≠ b; rw [← eg]; exact fun e => hne e.symm)]
  exact e3
end

/-- the nodes, in new memory -/
theorem nodes_on (A : Option Addr) (n c : Nat) (g : Gr) (w : World) (h : GAsk w A n c g) (hg : rightG g = true) :
    Calls Tryz.prog 102 #[.slice A n c] w fun e w' => ∃ v w1, e = .returned v ∧ Below w.heap.size w w1 ∧ ON EI 1 3 w1 v (nodesL g) w' :=
  nodes_own A n c g w h hg

/-- what holds while 'have' and 'all' are told, in whatever order -/
def VarsInv (w3 : World) (wz : Nat) (A : Option Addr) (n c : Nat) (A2 : Option Addr) (n2 c2 : Nat) (g : Gr) (F : List Int) (s : Sp) (L : Nat → Bool) (a : Act) (w : World) : Prop :=
  ∃ v7 v8 v22 v23 v24 v25 v26 v27 v28 : Value, a = { tmps := #[.slice A n c, .slice A2 n2 c2, .agg #[.int .i64 s.nodes, .int .i64 s.cores, .int .i64 s.gpus, .string s.tag, .bool s.whole, .int .i64 s.long, .int .i64 s.prio], .pointer (some ⟨wz, 0, none⟩), undef, .pointer (some ⟨wz + 1, 0, none⟩), .slice none 0 0, v7, v8, .slice A n c, .bool true, .bool false, .bool false, .slice A2 n2 c2, .bool true, .bool false, .bool false, .bool false, .agg #[.int .i64 s.nodes, .int .i64 s.cores, .int .i64 s.gpus, .string s.tag, .bool s.whole, .int .i64 s.long, .int .i64 s.prio], .bool true, .bool false, .bool false, v22, v23, v24, v25, v26, v27, v28, undef, undef, undef, undef], defers := [] } ∧ Below w3.heap.size w3 w ∧
    (L 0 = true → v22 = .slice A n c) ∧ (L 1 = true → v23 = .slice A2 n2 c2) ∧ (L 3 = true → v25 = .slice A n c) ∧ (L 4 = true → v26 = .slice A n c) ∧
    (L 2 = true → ∃ b, v24 = .slice (some ⟨b, 0, none⟩) n n ∧ Tab w3 b n (tabT g F 256) w) ∧
    (L 5 = true → L 9 = false → ∃ A5 c5, v27 = .slice A5 (underL g 0).length c5 ∧ RI w w.heap.size A5 (underL g 0).length (underL g 0)) ∧
    (L 6 = true → ∃ b, v28 = .slice (some ⟨b, 0, none⟩) n n ∧ Tab w3 b n (tabT g (underL g 0) 256) w) ∧
    (L 7 = true → ∃ b, v7 = .pointer (some ⟨b, 0, none⟩) ∧ Box1 w3 w b (if L 9 = true then v24 else .slice none 0 0)) ∧
    (L 8 = true → ∃ b, v8 = .pointer (some ⟨b, 0, none⟩) ∧ Box1 w3 w b (if L 10 = true then v28 else .slice none 0 0)) ∧
    (L 7 = true → L 8 = true → v7 ≠ v8) ∧
    ((L 9 = true → L 2 = true ∧ L 5 = true ∧ L 6 = true ∧ L 7 = true ∧ L 8 = true) ∧ (L 6 = true → L 5 = true) ∧ (L 10 = true → L 9 = true))

set_option maxRecDepth 100000 in
set_option maxHeartbeats 8000000 in
theorem suiting_yes (A : Option Addr) (n c : Nat) (A2 : Option Addr) (n2 c2 : Nat) (g : Gr) (F : List Int) (s : Sp) (w : World) (hg : GAsk w A n c g) (hf : LAsk w A2 n2 c2 F) (hs : SAsk s) (hm : mayB g F s = true) :
    Calls Tryz.prog 85 #[.slice A n c, .slice A2 n2 c2, .agg #[.int .i64 s.nodes, .int .i64 s.cores, .int .i64 s.gpus, .string s.tag, .bool s.whole, .int .i64 s.long, .int .i64 s.prio]] w (IPost (suitL g F s) w) := by
  obtain ⟨hrg, hrF, hrs⟩ := mayB_is hm
  obtain ⟨W, hW⟩ : ∃ W, W = (w.alloc (.cells #[.slice A n c] 22)).alloc (spO s) := ⟨_, rfl⟩
  have hb0 : Below w.heap.size w W := by rw [hW]; exact ((Below.refl _ _).alloc (Nat.le_refl _) _).alloc (by simp) _
  have CG : Hid (CellK W ⟨w.heap.size, 0, none⟩ (.slice A n c)) := Lib.hid (by
    rw [hW]
    refine ⟨by simp; omega, ?_⟩
    rw [World.cell?_alloc_past (w := w.alloc _) _ _ _ (by simp), World.cell?_alloc_at _ _ _ _ rfl]
    rfl)
  have BX : Hid (BoxS W (w.heap.size + 1) s) := Lib.hid (by
    have := box_new (w.alloc (.cells #[.slice A n c] 22)) s
    rw [World.size_alloc] at this
    rw [hW]; exact this)
  have HB := Lib.hid hb0
  have FG := Lib.hid (hg.next hb0)
  have FF := Lib.hid (hf.next hb0)
  have HS := Lib.hid hs
  have HG0 := Lib.hid hg
  have RG' := Lib.hid hrg
  have RF := Lib.hid hrF
  have RS := Lib.hid hrs
  have HM := Lib.hid hm
  unfold spO at hW
  clear hb0 hg hf hs hrg hrF hrs hm
  have cg := CG.out.at'
  go_enter Tryz.func85, Tryz.ntmps85
  go_wp2_with fail
  rw [← hW]
  refine (graphRight_b FG.out.reads (ml300 FG.out.few) RG'.out).mono ?_
  rintro e w1 ⟨rfl, hb⟩
  replace HB := Lib.hid (HB.out.trans (hb.mono HB.out.size))
  replace CG := Lib.hid (CG.out.next hb)
  replace BX := Lib.hid (BX.out.next hb)
  replace FG := Lib.hid (FG.out.next hb)
  replace FF := Lib.hid (FF.out.next hb)
  clear hb
  clear hW cg
  go_wp2_with fail
  refine (s_isSet FF.out.reads (ml300 FF.out.few) RF.out).mono ?_
  rintro e w2 ⟨rfl, hb⟩
  replace HB := Lib.hid (HB.out.trans (hb.mono HB.out.size))
  replace CG := Lib.hid (CG.out.next hb)
  replace BX := Lib.hid (BX.out.next hb)
  replace FG := Lib.hid (FG.out.next hb)
  replace FF := Lib.hid (FF.out.next hb)
  clear hb
  have q0 := BX.out.c0
  have q1 := BX.out.c1
  have q2 := BX.out.c2
  have q3 := BX.out.c3
  have q4 := BX.out.c4
  have q5 := BX.out.c5
  have q6 := BX.out.c6
  go_wp2_with fail
  refine (specRight_b HS.out RS.out).mono ?_
  rintro e w3 ⟨rfl, hb⟩
  replace HB := Lib.hid (HB.out.trans (hb.mono HB.out.size))
  replace CG := Lib.hid (CG.out.next hb)
  replace BX := Lib.hid (BX.out.next hb)
  replace FG := Lib.hid (FG.out.next hb)
  replace FF := Lib.hid (FF.out.next hb)
  clear hb
  clear q0 q1 q2 q3 q4 q5 q6
  have cg := CG.out.at'
  go_wp2
  have FGA : Hid (∀ wx, Below w3.heap.size w3 wx → GAsk wx A n c g) := Lib.hid (fun wx hx => FG.out.next hx)
  have FFA : Hid (∀ wx, Below w3.heap.size w3 wx → LAsk wx A2 n2 c2 F) := Lib.hid (fun wx hx => FF.out.next hx)
  have CGA : Hid (∀ wx, Below w3.heap.size w3 wx → wx.cell? ⟨w.heap.size, 0, none⟩ = some (.slice A n c)) := Lib.hid (fun wx hx => (CG.out.next hx).at')
  clear cg
  refine wp_region_inv (Inv := VarsInv w3 w.heap.size A n c A2 n2 c2 g F s) (by kernel_rfl) ?_ ?_ ?_
  · exact ⟨undef, undef, undef, undef, undef, undef, undef, undef, undef, rfl, bel_drew1 w3, by simp, by simp, by simp, by simp, by simp, by simp, by simp, by simp, by simp, by simp, by simp⟩
  · intro L i o a w ho hLi hd hI K hK
    obtain ⟨v7, v8, v22, v23, v24, v25, v26, v27, v28, rfl, hB, h0, h1, h3, h4, h2, h5, h6, h7, h8, h78, hD⟩ := hI
    have hcg := CGA.out w hB
    have hi : i < 11 := (Array.getElem?_eq_some_iff.1 ho).1
    rcases (show i = 0 ∨ i = 1 ∨ i = 2 ∨ i = 3 ∨ i = 4 ∨ i = 5 ∨ i = 6 ∨ i = 7 ∨ i = 8 ∨ i = 9 ∨ i = 10 by omega) with rfl | rfl | rfl | rfl | rfl | rfl | rfl | rfl | rfl | rfl | rfl
    · injection ho with ho
      subst ho
      rw [if_pos (by rfl)]
      go_simp
      exact hK _ _ ⟨v7, v8, (.slice A n c), v23, v24, v25, v26, v27, v28, rfl, hB, fun _ => rfl,
        fun h => h1 (by simpa using h),
        fun h => h3 (by simpa using h),
        fun h => h4 (by simpa using h),
        fun h => h2 (by simpa using h),
        fun h h' => h5 (by simpa using h) (by simpa using h'),
        fun h => h6 (by simpa using h),
        fun h => by simpa using h7 (by simpa using h),
        fun h => by simpa using h8 (by simpa using h),
        fun h h' => h78 (by simpa using h) (by simpa using h'),
        ⟨fun h => by have := hD.1 (by simpa using h); simp [this], fun h => by have := hD.2.1 (by simpa using h); simp [this], fun h => by have := hD.2.2 (by simpa using h); simp [this]⟩⟩
    · injection ho with ho
      subst ho
      rw [if_pos (by rfl)]
      go_simp
      exact hK _ _ ⟨v7, v8, v22, (.slice A2 n2 c2), v24, v25, v26, v27, v28, rfl, hB, fun h => h0 (by simpa using h),
        fun _ => rfl,
        fun h => h3 (by simpa using h),
        fun h => h4 (by simpa using h),
        fun h => h2 (by simpa using h),
        fun h h' => h5 (by simpa using h) (by simpa using h'),
        fun h => h6 (by simpa using h),
        fun h => by simpa using h7 (by simpa using h),
        fun h => by simpa using h8 (by simpa using h),
        fun h h' => h78 (by simpa using h) (by simpa using h'),
        ⟨fun h => by have := hD.1 (by simpa using h); simp [this], fun h => by have := hD.2.1 (by simpa using h); simp [this], fun h => by have := hD.2.2 (by simpa using h); simp [this]⟩⟩
    · injection ho with ho
      subst ho
      rw [if_pos (by rfl)]
      have n9 : L 9 = false := Bool.eq_false_iff.2 fun h => by have := hD.1 h; simp [hLi] at this
      have n10 : L 10 = false := Bool.eq_false_iff.2 fun h => by have := hD.1 (hD.2.2 h); simp [hLi] at this
      have e22 := h0 (hd ⟨0, Ground.data⟩ (by simp) rfl)
      have e23 := h1 (hd ⟨1, Ground.data⟩ (by simp) rfl)
      subst e22 e23
      go_simp
      refine (mcount_any A n c A2 n2 c2 g F w (FGA.out w hB).reads RG'.out (FFA.out w hB).reads RF.out).mono ?_
      rintro e w' ⟨b, rfl, hT⟩
      have hb := hT.bel
      go_simp
      exact hK _ _ ⟨v7, v8, (.slice A n c), (.slice A2 n2 c2), _, v25, v26, v27, v28, rfl, hB.trans (hb.mono hB.size), fun _ => rfl,
        fun _ => rfl,
        fun h => h3 (by simpa using h),
        fun h => h4 (by simpa using h),
        fun _ => ⟨b, rfl, hT.early hB⟩,
        fun h h' => by obtain ⟨A5, c5, e, hr⟩ := h5 (by simpa using h) (by simpa using h'); exact ⟨A5, c5, e, hr.next hb⟩,
        fun h => by obtain ⟨b, e, hr⟩ := h6 (by simpa using h); exact ⟨b, e, hr.next hb⟩,
        fun h => by obtain ⟨b, e, hr⟩ := h7 (by simpa using h); exact ⟨b, e, by simpa [n9, n10] using hr.next hb⟩,
        fun h => by obtain ⟨b, e, hr⟩ := h8 (by simpa using h); exact ⟨b, e, by simpa [n9, n10] using hr.next hb⟩,
        fun h h' => h78 (by simpa using h) (by simpa using h'),
        ⟨fun h => by have := hD.1 (by simpa using h); simp [this], fun h => by have := hD.2.1 (by simpa using h); simp [this], fun h => by have := hD.2.2 (by simpa using h); simp [this]⟩⟩
    · injection ho with ho
      subst ho
      rw [if_pos (by rfl)]
      go_simp
      exact hK _ _ ⟨v7, v8, v22, v23, v24, (.slice A n c), v26, v27, v28, rfl, hB, fun h => h0 (by simpa using h),
        fun h => h1 (by simpa using h),
        fun _ => rfl,
        fun h => h4 (by simpa using h),
        fun h => h2 (by simpa using h),
        fun h h' => h5 (by simpa using h) (by simpa using h'),
        fun h => h6 (by simpa using h),
        fun h => by simpa using h7 (by simpa using h),
        fun h => by simpa using h8 (by simpa using h),
        fun h h' => h78 (by simpa using h) (by simpa using h'),
        ⟨fun h => by have := hD.1 (by simpa using h); simp [this], fun h => by have := hD.2.1 (by simpa using h); simp [this], fun h => by have := hD.2.2 (by simpa using h); simp [this]⟩⟩
    · injection ho with ho
      subst ho
      rw [if_pos (by rfl)]
      go_simp
      exact hK _ _ ⟨v7, v8, v22, v23, v24, v25, (.slice A n c), v27, v28, rfl, hB, fun h => h0 (by simpa using h),
        fun h => h1 (by simpa using h),
        fun h => h3 (by simpa using h),
        fun _ => rfl,
        fun h => h2 (by simpa using h),
        fun h h' => h5 (by simpa using h) (by simpa using h'),
        fun h => h6 (by simpa using h),
        fun h => by simpa using h7 (by simpa using h),
        fun h => by simpa using h8 (by simpa using h),
        fun h h' => h78 (by simpa using h) (by simpa using h'),
        ⟨fun h => by have := hD.1 (by simpa using h); simp [this], fun h => by have := hD.2.1 (by simpa using h); simp [this], fun h => by have := hD.2.2 (by simpa using h); simp [this]⟩⟩
    · injection ho with ho
      subst ho
      rw [if_pos (by rfl)]
      have n9 : L 9 = false := Bool.eq_false_iff.2 fun h => by have := hD.1 h; simp [hLi] at this
      have n10 : L 10 = false := Bool.eq_false_iff.2 fun h => by have := hD.1 (hD.2.2 h); simp [hLi] at this
      have e26 := h4 (hd ⟨4, Ground.data⟩ (by simp) rfl)
      subst e26
      go_simp
      refine (under_any A n c g 0 w (FGA.out w hB) (by unfold I64; omega)).mono ?_
      rintro e w' ⟨⟨A5, c5, rfl, hr5, _, _⟩, hb⟩
      go_simp
      exact hK _ _ ⟨v7, v8, v22, v23, v24, v25, (.slice A n c), _, v28, rfl, hB.trans (hb.mono hB.size), fun h => h0 (by simpa using h),
        fun h => h1 (by simpa using h),
        fun h => h3 (by simpa using h),
        fun _ => rfl,
        fun h => by obtain ⟨b, e, hr⟩ := h2 (by simpa using h); exact ⟨b, e, hr.next hb⟩,
        fun _ _ => ⟨A5, c5, rfl, hr5⟩,
        fun h => by obtain ⟨b, e, hr⟩ := h6 (by simpa using h); exact ⟨b, e, hr.next hb⟩,
        fun h => by obtain ⟨b, e, hr⟩ := h7 (by simpa using h); exact ⟨b, e, by simpa [n9, n10] using hr.next hb⟩,
        fun h => by obtain ⟨b, e, hr⟩ := h8 (by simpa using h); exact ⟨b, e, by simpa [n9, n10] using hr.next hb⟩,
        fun h h' => h78 (by simpa using h) (by simpa using h'),
        ⟨fun h => by have := hD.1 (by simpa using h); simp [this], fun h => by have := hD.2.1 (by simpa using h); simp [this], fun h => by have := hD.2.2 (by simpa using h); simp [this]⟩⟩
    · injection ho with ho
      subst ho
      rw [if_pos (by rfl)]
      have n9 : L 9 = false := Bool.eq_false_iff.2 fun h => by have := hD.1 h; simp [hLi] at this
      have n10 : L 10 = false := Bool.eq_false_iff.2 fun h => by have := hD.1 (hD.2.2 h); simp [hLi] at this
      have e25 := h3 (hd ⟨3, Ground.data⟩ (by simp) rfl)
      have l5 := (hd ⟨5, Ground.data⟩ (by simp) rfl)
      obtain ⟨A5, c5, e27, hr5⟩ := h5 l5 n9
      subst e25 e27
      go_simp
      refine (mcount_any A n c A5 _ c5 g (underL g 0) w (FGA.out w hB).reads RG'.out hr5 (by rw [show (0 : Int) = ((0 : Nat) : Int) from rfl]; exact underL_right RG'.out (rightG_is RG'.out).pos)).mono ?_
      rintro e w' ⟨b, rfl, hT⟩
      have hb := hT.bel
      go_simp
      exact hK _ _ ⟨v7, v8, v22, v23, v24, (.slice A n c), v26, _, _, rfl, hB.trans (hb.mono hB.size), fun h => h0 (by simpa using h),
        fun h => h1 (by simpa using h),
        fun _ => rfl,
        fun h => h4 (by simpa using h),
        fun h => by obtain ⟨b, e, hr⟩ := h2 (by simpa using h); exact ⟨b, e, hr.next hb⟩,
        fun h h' => ⟨A5, c5, rfl, hr5.next hb⟩,
        fun _ => ⟨b, rfl, hT.early hB⟩,
        fun h => by obtain ⟨b, e, hr⟩ := h7 (by simpa using h); exact ⟨b, e, by simpa [n9, n10] using hr.next hb⟩,
        fun h => by obtain ⟨b, e, hr⟩ := h8 (by simpa using h); exact ⟨b, e, by simpa [n9, n10] using hr.next hb⟩,
        fun h h' => h78 (by simpa using h) (by simpa using h'),
        ⟨fun h => by have := hD.1 (by simpa using h); simp [this], fun _ => by simp [l5], fun h => by have := hD.2.2 (by simpa using h); simp [this]⟩⟩
    · injection ho with ho
      subst ho
      rw [if_pos (by rfl)]
      have n9 : L 9 = false := Bool.eq_false_iff.2 fun h => by have := hD.1 h; simp [hLi] at this
      have n10 : L 10 = false := Bool.eq_false_iff.2 fun h => by have := hD.1 (hD.2.2 h); simp [hLi] at this
      have hb : Below w.heap.size w (w.alloc (.cells #[.slice none 0 0] 120)) := (Below.refl _ _).alloc (Nat.le_refl _) _
      go_simp
      exact hK _ _ ⟨_, v8, v22, v23, v24, v25, v26, v27, v28, rfl, hB.trans (hb.mono hB.size), fun h => h0 (by simpa using h),
        fun h => h1 (by simpa using h),
        fun h => h3 (by simpa using h),
        fun h => h4 (by simpa using h),
        fun h => by obtain ⟨b, e, hr⟩ := h2 (by simpa using h); exact ⟨b, e, hr.next hb⟩,
        fun h h' => by obtain ⟨A5, c5, e, hr⟩ := h5 (by simpa using h) (by simpa using h'); exact ⟨A5, c5, e, hr.next hb⟩,
        fun h => by obtain ⟨b, e, hr⟩ := h6 (by simpa using h); exact ⟨b, e, hr.next hb⟩,
        fun h => ⟨_, rfl, (by rw [if_neg (by simp [n9])]; exact Box1.made hB.size _)⟩,
        fun h => by obtain ⟨b, e, hr⟩ := h8 (by simpa using h); exact ⟨b, e, by simpa [n9, n10] using hr.next hb⟩,
        fun _ h' e => by obtain ⟨b, e2, hr⟩ := h8 (by simpa using h'); rw [e2] at e; injection e with e; injection e with e; injection e with e; have := hr.lt; omega,
        ⟨fun h => by have := hD.1 (by simpa using h); simp [this], fun h => by have := hD.2.1 (by simpa using h); simp [this], fun h => by have := hD.2.2 (by simpa using h); simp [this]⟩⟩
    · injection ho with ho
      subst ho
      rw [if_pos (by rfl)]
      have n9 : L 9 = false := Bool.eq_false_iff.2 fun h => by have := hD.1 h; simp [hLi] at this
      have n10 : L 10 = false := Bool.eq_false_iff.2 fun h => by have := hD.1 (hD.2.2 h); simp [hLi] at this
      have hb : Below w.heap.size w (w.alloc (.cells #[.slice none 0 0] 120)) := (Below.refl _ _).alloc (Nat.le_refl _) _
      go_simp
      exact hK _ _ ⟨v7, _, v22, v23, v24, v25, v26, v27, v28, rfl, hB.trans (hb.mono hB.size), fun h => h0 (by simpa using h),
        fun h => h1 (by simpa using h),
        fun h => h3 (by simpa using h),
        fun h => h4 (by simpa using h),
        fun h => by obtain ⟨b, e, hr⟩ := h2 (by simpa using h); exact ⟨b, e, hr.next hb⟩,
        fun h h' => by obtain ⟨A5, c5, e, hr⟩ := h5 (by simpa using h) (by simpa using h'); exact ⟨A5, c5, e, hr.next hb⟩,
        fun h => by obtain ⟨b, e, hr⟩ := h6 (by simpa using h); exact ⟨b, e, hr.next hb⟩,
        fun h => by obtain ⟨b, e, hr⟩ := h7 (by simpa using h); exact ⟨b, e, by simpa [n9, n10] using hr.next hb⟩,
        fun h => ⟨_, rfl, (by rw [if_neg (by simp [n10])]; exact Box1.made hB.size _)⟩,
        fun h' _ e => by obtain ⟨b, e2, hr⟩ := h7 (by simpa using h'); rw [e2] at e; injection e with e; injection e with e; injection e with e; have := hr.lt; omega,
        ⟨fun h => by have := hD.1 (by simpa using h); simp [this], fun h => by have := hD.2.1 (by simpa using h); simp [this], fun h => by have := hD.2.2 (by simpa using h); simp [this]⟩⟩
    · injection ho with ho
      subst ho
      rw [if_pos (by rfl)]
      have l2 := hd ⟨2, Ground.data⟩ (by simp) rfl
      have l6 := hd ⟨6, Ground.chain⟩ (by simp) rfl
      have l7 := hd ⟨7, Ground.data⟩ (by simp) rfl
      have l8 := hd ⟨8, Ground.phase⟩ (by simp) rfl
      have l5 := hD.2.1 l6
      have n10 : L 10 = false := Bool.eq_false_iff.2 fun h => by have := hD.2.2 h; simp [hLi] at this
      obtain ⟨b7, rfl, x7⟩ := h7 l7
      obtain ⟨b8, rfl, x8⟩ := h8 l8
      obtain ⟨hb, rfl, t2⟩ := h2 l2
      obtain ⟨ub, rfl, t6⟩ := h6 l6
      have hne : b7 ≠ b8 := fun e => h78 l7 l8 (by rw [e])
      rw [if_neg (by rw [hLi]; simp)] at x7
      rw [if_neg (by rw [n10]; simp)] at x8
      have hc := x7.cell
      have hz := x7.frozen
      go_simp
      exact hK _ _ ⟨_, _, v22, v23, _, v25, v26, v27, _, rfl, hB.setCell (p := ⟨b7, 0, none⟩) x7.new _, fun h => h0 (by simpa using h),
        fun h => h1 (by simpa using h),
        fun h => h3 (by simpa using h),
        fun h => h4 (by simpa using h),
        fun _ => ⟨hb, rfl, t2.other x7 _⟩,
        fun _ h' => by simp at h',
        fun _ => ⟨ub, rfl, t6.other x7 _⟩,
        fun _ => ⟨b7, rfl, by rw [if_pos (by simp)]; exact x7.set _⟩,
        fun _ => ⟨b8, rfl, by rw [if_neg (by simp [n10])]; exact x8.other hne _⟩,
        fun h h' => h78 (by simpa using h) (by simpa using h'),
        ⟨fun _ => by simp [l2, l5, l6, l7, l8], fun h => by simp [l5], fun h => by simp⟩⟩
    · injection ho with ho
      subst ho
      rw [if_pos (by rfl)]
      have l2 := hd ⟨2, Ground.phase⟩ (by simp) rfl
      have l6 := hd ⟨6, Ground.data⟩ (by simp) rfl
      have l7 := hd ⟨7, Ground.phase⟩ (by simp) rfl
      have l8 := hd ⟨8, Ground.data⟩ (by simp) rfl
      have l9 := hd ⟨9, Ground.chain⟩ (by simp) rfl
      obtain ⟨b7, rfl, x7⟩ := h7 l7
      obtain ⟨b8, rfl, x8⟩ := h8 l8
      obtain ⟨hb, rfl, t2⟩ := h2 l2
      obtain ⟨ub, rfl, t6⟩ := h6 l6
      have hne : b8 ≠ b7 := fun e => h78 l7 l8 (by rw [e])
      rw [if_pos l9] at x7
      rw [if_neg (by rw [hLi]; simp)] at x8
      have hc := x8.cell
      have hz := x8.frozen
      go_simp
      exact hK _ _ ⟨_, _, v22, v23, _, v25, v26, v27, _, rfl, hB.setCell (p := ⟨b8, 0, none⟩) x8.new _, fun h => h0 (by simpa using h),
        fun h => h1 (by simpa using h),
        fun h => h3 (by simpa using h),
        fun h => h4 (by simpa using h),
        fun _ => ⟨hb, rfl, t2.other x8 _⟩,
        fun _ h' => by simp [l9] at h',
        fun _ => ⟨ub, rfl, t6.other x8 _⟩,
        fun _ => ⟨b7, rfl, by rw [if_pos (by simp [l9])]; exact x7.other hne _⟩,
        fun _ => ⟨b8, rfl, by rw [if_pos (by simp)]; exact x8.set _⟩,
        fun h h' => h78 (by simpa using h) (by simpa using h'),
        ⟨fun _ => by have := hD.1 l9; simp [this], fun h => by have := hD.1 l9; simp [this], fun h => by simp [l9]⟩⟩
  · intro L a wx hall hI
    obtain ⟨v7, v8, v22, v23, v24, v25, v26, v27, v28, rfl, hB, h0, h1, h3, h4, h2, h5, h6, h7, h8, h78, hD⟩ := hI
    have l0 : L 0 = true := by
      cases h : L 0 with
      | true => rfl
      | false =>
        obtain ⟨e, he, hbnd, hf⟩ := hall 0 _ rfl h
        clear hbnd
        exfalso
        revert hf
        revert he
        revert e
        simp
    have l1 : L 1 = true := by
      cases h : L 1 with
      | true => rfl
      | false =>
        obtain ⟨e, he, hbnd, hf⟩ := hall 1 _ rfl h
        clear hbnd
        exfalso
        revert hf
        revert he
        revert e
        simp
    have l3 : L 3 = true := by
      cases h : L 3 with
      | true => rfl
      | false =>
        obtain ⟨e, he, hbnd, hf⟩ := hall 3 _ rfl h
        clear hbnd
        exfalso
        revert hf
        revert he
        revert e
        simp
    have l4 : L 4 = true := by
      cases h : L 4 with
      | true => rfl
      | false =>
        obtain ⟨e, he, hbnd, hf⟩ := hall 4 _ rfl h
        clear hbnd
        exfalso
        revert hf
        revert he
        revert e
        simp
    have l7 : L 7 = true := by
      cases h : L 7 with
      | true => rfl
      | false =>
        obtain ⟨e, he, hbnd, hf⟩ := hall 7 _ rfl h
        clear hbnd
        exfalso
        revert hf
        revert he
        revert e
        simp
    have l8 : L 8 = true := by
      cases h : L 8 with
      | true => rfl
      | false =>
        obtain ⟨e, he, hbnd, hf⟩ := hall 8 _ rfl h
        clear hbnd
        exfalso
        revert hf
        revert he
        revert e
        simp
    have l2 : L 2 = true := by
      cases h : L 2 with
      | true => rfl
      | false =>
        obtain ⟨e, he, hbnd, hf⟩ := hall 2 _ rfl h
        clear hbnd
        exfalso
        revert hf
        revert he
        revert e
        simp [l0, l1]
    have l5 : L 5 = true := by
      cases h : L 5 with
      | true => rfl
      | false =>
        obtain ⟨e, he, hbnd, hf⟩ := hall 5 _ rfl h
        clear hbnd
        exfalso
        revert hf
        revert he
        revert e
        simp [l4, l2]
    have l6 : L 6 = true := by
      cases h : L 6 with
      | true => rfl
      | false =>
        obtain ⟨e, he, hbnd, hf⟩ := hall 6 _ rfl h
        clear hbnd
        exfalso
        revert hf
        revert he
        revert e
        simp [l3, l5]
    have l9 : L 9 = true := by
      cases h : L 9 with
      | true => rfl
      | false =>
        obtain ⟨e, he, hbnd, hf⟩ := hall 9 _ rfl h
        clear hbnd
        exfalso
        revert hf
        revert he
        revert e
        simp [l0, l1, l2, l3, l4, l5, l6, l7, l8]
    have l10 : L 10 = true := by
      cases h : L 10 with
      | true => rfl
      | false =>
        obtain ⟨e, he, hbnd, hf⟩ := hall 10 _ rfl h
        clear hbnd
        exfalso
        revert hf
        revert he
        revert e
        simp [l0, l1, l2, l3, l4, l5, l6, l7, l8, l9]
    obtain ⟨hb, rfl, t2⟩ := h2 l2
    obtain ⟨ub, rfl, t6⟩ := h6 l6
    obtain ⟨b7, rfl, x7⟩ := h7 l7
    obtain ⟨b8, rfl, x8⟩ := h8 l8
    rw [if_pos l9] at x7
    rw [if_pos l10] at x8
    have hcg := CGA.out wx hB
    have hn256 : n ≤ 256 := by have := (rightG_is RG'.out).few; have := HG0.out.reads.len; omega
    have HC : Hid (Caps w.heap.size (w.heap.size + 1) b7 b8 hb ub A n c g s (tabT g F 256) (tabT g (underL g 0) 256) wx) := Lib.hid ⟨(FGA.out wx hB).reads, hn256, BX.out.next hB, ⟨hcg, (CG.out.next hB).lt⟩, ⟨x7.cell, x7.lt⟩, ⟨x8.cell, x8.lt⟩, ⟨fun k c hk hc => t2.cell hk hc, t2.lt.2⟩, ⟨fun k c hk hc => t6.cell hk hc, t6.lt.2⟩⟩
    have HBx := Lib.hid (HB.out.trans (hB.mono HB.out.size))
    have HGx := Lib.hid (FGA.out wx hB)
    have eg : ∀ args w, (callFunc 103 args).run Tryz.prog w = .ok (.enter 103 args) w := Go.Proofs.enters_of Tryz.func103 (by kernel_rfl) rfl
    have HEG := Lib.hid eg
    clear hall h0 h1 h3 h4 h2 h5 h6 h7 h8 h78 hD l0 l1 l2 l3 l4 l5 l6 l7 l8 l9 l10 t2 t6 x7 x8 hB eg
    go_wp2_with fail
    refine (nodes_on A n c g wx HGx.out RG'.out).mono ?_
    rintro e w4 ⟨v, w4', rfl, hb4, hon⟩
    have HB4 : Hid (Below w.heap.size w w4') := Lib.hid (HBx.out.trans (hb4.mono HBx.out.size))
    have HF : Hid (∀ x ∈ nodesL g, ∀ wz, (∀ gx, v.ownBlock = some gx → But gx w4 wz) → Calls Tryz.prog 103 (#[.int .i64 x] ++ #[.pointer (some ⟨w.heap.size, 0, none⟩), .pointer (some ⟨w.heap.size + 1, 0, none⟩), .pointer (some ⟨b7, 0, none⟩), .pointer (some ⟨b8, 0, none⟩)]) wz fun e w' => e = .returned (.bool (closeB (tabT g F 256) (tabT g (underL g 0) 256) g s x.toNat)) ∧ Below wz.heap.size wz w') := Lib.hid (by
      intro x hx wz hbut
      obtain ⟨k, hk, hk2, rfl⟩ := (mem_nodes RG'.out).1 hx
      obtain ⟨fl, hown, hbel, _⟩ := hon
      rcases hown.2 with ⟨_, h0⟩ | ⟨gx, cap, cur, hv, hge, hgx, _⟩
      · have : nodesL g = [] := List.eq_nil_of_length_eq_zero h0
        rw [this] at hx
        cases hx
      · have hB' := hbut gx (by rw [hv]; rfl)
        have hgl : gx < w4.heap.size := (Array.getElem?_eq_some_iff.1 hgx).1
        have hC4 := (HC.out.next hb4).next hbel
        have s1 := hb4.size
        have s2 := HBx.out.size
        have hw4 : Below w.heap.size w w4 := HB4.out.trans (hbel.mono HB4.out.size)
        have hbz : Below w.heap.size w wz := hw4.trans (hB'.below (by omega) hgl)
        have hrg : RG wz wz.heap.size A n g := RN.keep eth_steady (HG0.out.reads.below hbz) (fun _ _ => rfl) (fun b (hb : b < w.heap.size) => Nat.lt_of_lt_of_le hb hbz.size)
        have c1 := HC.out.cg.2
        have c2 := HC.out.spec.lt
        have c3 := HC.out.ch.2
        have c4 := HC.out.ca.2
        have c5 := HC.out.have'.2
        have c6 := HC.out.all.2
        exact close_any (hC4.but hB' hrg ⟨by omega, by omega, by omega, by omega, by omega, by omega⟩) (by rw [← HG0.out.reads.len]; exact hk))
    have hfil : (nodesL g).filter (fun x => !closeB (tabT g F 256) (tabT g (underL g 0) 256) g s x.toNat) = suitL g F s := by
      rw [← nodes_suit HM.out]
      refine List.filter_congr fun x hx => ?_
      obtain ⟨k, hk, hk2, rfl⟩ := (mem_nodes RG'.out).1 hx
      unfold closeB
      rw [Bool.not_not]
      exact (suit_by RG'.out hk hk2).symm
    have hdel := deleteFunc_any 103 #[.pointer (some ⟨w.heap.size, 0, none⟩), .pointer (some ⟨w.heap.size + 1, 0, none⟩), .pointer (some ⟨b7, 0, none⟩), .pointer (some ⟨b8, 0, none⟩)] HEG.out _ v (nodesL g) w4' w4 hon HF.out
    rw [hfil] at hdel
    have HD := Lib.hid hdel
    clear hb4 hon hfil hdel hcg
    go_wp2_with fail
    refine HD.out.mono ?_
    rintro e w5 ⟨⟨A5, c5, rfl, hr5, hn5, hc5⟩, hb5⟩
    have HP : Hid (IPost (suitL g F s) w (.returned (.slice A5 (suitL g F s).length c5)) w5) := Lib.hid ⟨⟨A5, c5, rfl, hr5, hn5, hc5⟩, HB4.out.trans (hb5.mono HB4.out.size)⟩
    clear hr5 hn5 hc5 hb5
    go_wp2
    go_ret
    exact HP.out

end Go.Proofs.YtchogijdkagiiaaGreatDoor

namespace Go.Proofs.YtchogijdkagiiaaGreatDoor
open Go.RowKit

/-! most -/
def mostV (s : Sp) : Value := .agg #[.int .i64 (mostS s 0), .int .i64 (mostS s 1), .int .i64 (mostS s 2), .int .i64 (mostS s 3), .int .i64 (mostS s 4)]
theorem mostV_whole {s : Sp} (h : s.whole = true) : mostV s = .agg #[.int .i64 0, .int .i64 0, .int .i64 1, .int .i64 256, .int .i64 256] := by
  unfold mostV mostS
  rw [h]; rfl
theorem mostV_part {s : Sp} (h : s.whole = false) : mostV s = .agg #[.int .i64 0, .int .i64 0, .int .i64 0, .int .i64 s.cores, .int .i64 s.gpus] := by
  unfold mostV mostS
  rw [h]; rfl
set_option maxRecDepth 100000 in
set_option maxHeartbeats 2000000 in
theorem most_true (n c gp : Int) (t : ByteArray) (lo pr : Int) (w : World) :
    Calls Tryz.prog 106 #[.agg #[.int .i64 n, .int .i64 c, .int .i64 gp, .string t, .bool true, .int .i64 lo, .int .i64 pr]] w fun e w' => e = .returned (.agg #[.int .i64 0, .int .i64 0, .int .i64 1, .int .i64 256, .int .i64 256]) ∧ Below w.heap.size w w' := by
  go_enter Tryz.func106, Tryz.ntmps106
  go_wp2
  refine bodyPost_ret (v := .agg #[.int .i64 0, .int .i64 0, .int .i64 1, .int .i64 256, .int .i64 256]) (by simp [results, Tryz.results106, go_sem]) rfl ⟨rfl, ?_⟩
  exact ((Below.refl _ _).alloc (Nat.le_refl _) _).alloc (by simp) _
set_option maxRecDepth 100000 in
set_option maxHeartbeats 2000000 in
theorem most_false (n c gp : Int) (t : ByteArray) (lo pr : Int) (w : World) :
    Calls Tryz.prog 106 #[.agg #[.int .i64 n, .int .i64 c, .int .i64 gp, .string t, .bool false, .int .i64 lo, .int .i64 pr]] w fun e w' => e = .returned (.agg #[.int .i64 0, .int .i64 0, .int .i64 0, .int .i64 c, .int .i64 gp]) ∧ Below w.heap.size w w' := by
  go_enter Tryz.func106, Tryz.ntmps106
  go_wp2
  refine bodyPost_ret (v := .agg #[.int .i64 0, .int .i64 0, .int .i64 0, .int .i64 c, .int .i64 gp]) (by simp [results, Tryz.results106, go_sem]) rfl ⟨rfl, ?_⟩
  exact ((Below.refl _ _).alloc (Nat.le_refl _) _).alloc (by simp) _
theorem most_any (s : Sp) (w : World) :
    Calls Tryz.prog 106 #[.agg #[.int .i64 s.nodes, .int .i64 s.cores, .int .i64 s.gpus, .string s.tag, .bool s.whole, .int .i64 s.long, .int .i64 s.prio]] w fun e w' => e = .returned (mostV s) ∧ Below w.heap.size w w' := by
  cases hw : s.whole with
  | true => rw [mostV_whole hw]; exact most_true _ _ _ _ _ _ w
  | false => rw [mostV_part hw]; exact most_false _ _ _ _ _ _ w

/-! a table, and beside it a row that grows -/
structure TakeR (w0 : World) (hb n : Nat) (T : Nat → Nat → Int) (v : Value) (xs : List Int) (wr : World) : Prop where
  tab : Tab w0 hb n T wr
  row : wr.ownsRow (hb + 1) 3 1 v xs.length (xs.map (Value.int .i64))
section
variable {w0 wr w1 : World} {hb n k c : Nat} {T T' : Nat → Nat → Int} {v : Value} {xs : List Int}
theorem TakeR.next (h : TakeR w0 hb n T v xs wr) (hb' : Below wr.heap.size wr w1) : TakeR w0 hb n T v xs w1 := by
  refine ⟨h.tab.next hb', h.row.1, h.row.2.imp id ?_⟩
  rintro ⟨g', cap, cur, e1, e2, e3, e4⟩
  exact ⟨g', cap, cur, e1, e2, (hb'.block g' (Array.getElem?_eq_some_iff.1 e3).1).trans e3, e4⟩
theorem TakeR.ext (h : TakeR w0 hb n T v xs wr) (he : ∀ k c, k < n → c < 5 → T k c = T' k c) : TakeR w0 hb n T' v xs wr := ⟨h.tab.ext he, h.row⟩
theorem TakeR.set (h : TakeR w0 hb n T v xs wr) (hc : c < 5) (k : Nat) (x : Int) : TakeR w0 hb n (upT T k c x) v xs (wr.setCell ⟨hb, k * 5 + c, none⟩ (.int .i64 x)) := by
  refine ⟨h.tab.set hc k x, h.row.1, h.row.2.imp id ?_⟩
  rintro ⟨g', cap, cur, e1, e2, e3, e4⟩
  exact ⟨g', cap, cur, e1, e2, (heap_setCell_other wr _ _ _ (by show g' ≠ hb; omega)).trans e3, e4⟩
theorem TakeR.start (h : Tab w0 hb n T wr) : TakeR w0 hb n T (.slice none 0 0) [] wr := ⟨h, by simpa using World.ownsRow_nil wr (hb + 1) 3 1⟩
theorem TakeR.post (h : TakeR w0 hb n T v xs wr) : IPostN xs w0 (.returned v) wr := ipostn_own h.row (by have := h.tab.lt.1; omega) h.tab.bel
set_option maxRecDepth 100000 in
/-- 'l = append(l, x)' -/
theorem wpList_append_TR {ops : Array Oper} {rest : List Oper} {o : Oper} {a : Act} {Q : Exit → Act → World → Prop} (hgd : o.guard = none) (s x : Operand)
    (ho : o.op = .call { callee := .builtin .append, args := #[s, x], argTypes := #[23, 23] })
    (h : TakeR w0 hb n T v xs wr) (hs : a.eval s = v) (x0 : Int) (hx : a.eval x = .slice (some ⟨wr.heap.size, 0, none⟩) 1 1) (hl : xs.length ≤ 1000)
    (hk : ∀ v' w', TakeR w0 hb n T v' (xs ++ [x0]) w' → wpList Tryz.prog ops Q rest (a.put o.dst v') w') : wpList Tryz.prog ops Q (o :: rest) a (wr.alloc (.cells #[.int .i64 x0] 3)) := by
  obtain ⟨i0, hi0, hz0, hz1, hz2⟩ := info_parts int_info
  have hlt := h.tab.lt
  refine wpList_append_own (wr.alloc (.cells #[.int .i64 x0] 3)) hgd s x 23 ho (hb + 1) 3 i0 (.int .i64 0) 1 8 Tryz.underlying23 hi0 hz0 hz1 hz2 rfl (by decide) v xs.length (xs.map (Value.int .i64)) hs (h.row.alloc _) ⟨wr.heap.size, 0, none⟩ 1 1 [.int .i64 x0] hx rfl
    (World.news_of_block (cs := #[.int .i64 x0]) (t := 3) (fr := (0, 0)) (heap_alloc_new wr _)) (by intro u hu; simp at hu; subst hu; rfl) (by unfold maxLen; omega) (by omega) (by simp; omega) fun v' w' h1 h2 _ => hk v' w' ?_
  have hkeep : w'.heap[hb]? = wr.heap[hb]? := by
    refine (h2.block hb (by simp; omega) (fun e => ?_)).trans (heap_alloc_old _ _ hlt.2)
    have := (h.row.lt hb e.symm).1
    omega
  refine ⟨⟨⟨h.tab.own.1, h.tab.own.2.imp id ?_⟩, (h.tab.bel.alloc h.tab.bel.size _).grown h2 (by have := h.tab.bel.size; simp; omega) (fun j hj => by have := (h.row.lt j hj).1; omega)⟩, by rw [List.length_append, List.map_append]; exact h1⟩
  rintro ⟨g', cap, cur, e1, e2, e3, e4⟩
  have eg : hb = g' := by
    injection e1 with e1 _ _
    injection e1 with e1
    injection e1
  subst eg
  exact ⟨hb, cap, cur, e1, e2, hkeep.trans e3, e4⟩
/-- a row of the table is stored whole -/
theorem Tab.row (h : Tab w0 hb n T wr) (k : Nat) (a0 a1 a2 a3 a4 : Int) :
    Tab w0 hb n (fun k' c' => if k' = k then (if c' = 0 then a0 else if c' = 1 then a1 else if c' = 2 then a2 else if c' = 3 then a3 else a4) else T k' c')
      (((((wr.setCell ⟨hb, k * 5, none⟩ (.int .i64 a0)).setCell ⟨hb, k * 5 + 1, none⟩ (.int .i64 a1)).setCell ⟨hb, k * 5 + 2, none⟩ (.int .i64 a2)).setCell ⟨hb, k * 5 + 3, none⟩ (.int .i64 a3)).setCell ⟨hb, k * 5 + 4, none⟩ (.int .i64 a4)) := by
  refine (((((h.set (c := 0) (by omega) k a0).set (c := 1) (by omega) k a1).set (c := 2) (by omega) k a2).set (c := 3) (by omega) k a3).set (c := 4) (by omega) k a4).ext fun k' c' _ hc' => ?_
  unfold upT
  by_cases hk : k' = k
  · rw [if_pos hk]
    rcases (show c' = 0 ∨ c' = 1 ∨ c' = 2 ∨ c' = 3 ∨ c' = 4 by omega) with h | h | h | h | h <;> simp [hk, h]
  · simp [hk]
end

end Go.Proofs.YtchogijdkagiiaaGreatDoor

namespace Go.Proofs.YtchogijdkagiiaaGreatDoor
open Go.RowKit

set_option maxRecDepth 100000 in
set_option maxHeartbeats 4000000 in
theorem take_any (A : Option Addr) (n c : Nat) (A2 : Option Addr) (n2 c2 : Nat) (A3 : Option Addr) (n3 c3 : Nat) (g : Gr) (F : List Int) (s : Sp) (w : World) (hr : RG w w.heap.size A n g) (hg : rightG g = true) (hi : RI w w.heap.size A2 n2 F) (hF : rightB F = true) (hs : rightS s = true) (hi3 : RI w w.heap.size A3 n3 (numsF (selP g F s) n)) :
    Calls Tryz.prog 86 #[.slice A n c, .slice A2 n2 c2, .agg #[.int .i64 s.nodes, .int .i64 s.cores, .int .i64 s.gpus, .string s.tag, .bool s.whole, .int .i64 s.long, .int .i64 s.prio], .slice A3 n3 c3] w (IPostN (numsF (findP g F s) n) w) := by
  obtain ⟨i0, hi0, hz0, hz1, hz2⟩ := kinds_parts kinds_info
  have hl := hr.len
  have HG := Lib.hid hg
  have HGR := Lib.hid (rightG_is hg)
  have HS := Lib.hid hs
  have hn256 : n ≤ 256 := by have := HGR.out.few; omega
  have hset := set_numsF hF
  have hn2 : n2 ≤ 256 := by rw [← hi.1, hset]; exact numsF_len _ _
  have hn3 : n3 ≤ 256 := by rw [← hi3.1]; exact Nat.le_trans (numsF_len _ _) hn256
  obtain ⟨W, hW⟩ : ∃ W, W = w.alloc (spO s) := ⟨_, rfl⟩
  have hb0 : Below w.heap.size w W := by rw [hW]; exact (Below.refl _ _).alloc (Nat.le_refl _) _
  have BX : Hid (BoxS W w.heap.size s) := Lib.hid (by rw [hW]; exact box_new w s)
  have HB0 := Lib.hid hb0
  have HWZ : Hid (W.heap.size = w.heap.size + 1) := Lib.hid (by rw [hW, World.size_alloc])
  have HRB : Hid (∀ wr, Below w.heap.size w wr → RG wr wr.heap.size A n g ∧ RI wr w.heap.size A2 n2 F ∧ RI wr w.heap.size A3 n3 (numsF (selP g F s) n)) := Lib.hid (fun wr hb' => ⟨RN.keep eth_steady (hr.below hb') (fun _ _ => rfl) (fun b (hb : b < w.heap.size) => Nat.lt_of_lt_of_le hb hb'.size), hi.below hb', hi3.below hb'⟩)
  have HL := Lib.hid hl
  have HL2 := Lib.hid hi.1
  have HL3 := Lib.hid hi3.1
  have HSET := Lib.hid hset
  unfold spO at hW
  clear hr hi hF hl hset hg hs hi3 hb0
  go_enter Tryz.func86, Tryz.ntmps86
  go_wp2_with (at_make; rw [← hW]; refine wpList_make_full _ rfl _ _ 120 rfl W.heap.size 128 i0 _ 5 Tryz.underlying120 hi0 hz0 hz1 .i64 .i64 _ _ n rfl rfl rfl rfl (by rw [hz2]; omega) (by unfold maxLen; omega) (Nat.le_refl _) ?_; intro w1 hown hgrow; refine Hid.out ?_)
  refine Lib.hid ?_
  have HT := Lib.hid (Tab.made hown (made_kinds n) hgrow)
  clear hown hgrow hW
  obtain ⟨hb, hhb⟩ : ∃ hb, w.heap.size + 1 = hb := ⟨_, rfl⟩
  rw [HWZ.out, hhb] at HT
  rw [hhb]
  clear hhb
  go_wp2
  go_loopw [22] (fun i wr => ∃ k m : Nat, k ≤ n3 ∧ i = .int .i64 k ∧ m ≤ n ∧ (numsF (selP g F s) n).take k = numsF (selP g F s) m ∧ Tab W hb n (firstT g F s m) wr) (fun i _ => n3 - (intOf i).toNat)
  case atStart => exact ⟨0, 0, Nat.zero_le _, rfl, Nat.zero_le _, by simp [numsF], HT.out.ext fun k c _ _ => (first_zero c).symm⟩
  case round =>
    obtain ⟨k, m, hk, rfl, hm, htake, hrel⟩ := hrel
    have HK := Lib.hid hrel
    clear hrel
    by_cases hlt : k < n3
    · obtain ⟨_, _, hI3⟩ := HRB.out wr (HB0.out.trans (HK.out.bel.mono HB0.out.size))
      obtain ⟨x, hmx, hxn, hxk, hxF, hgap, htk⟩ := take_next (by rw [HL3.out]; exact hlt) htake hm
      obtain ⟨b, off, rfl, hbl, hcl⟩ := hI3.one hlt
      rw [hxk] at hcl
      have HTK := Lib.hid htk
      have HXF := Lib.hid hxF
      have HGAP := Lib.hid hgap
      have BXr := Lib.hid (BX.out.next HK.out.bel)
      have q0 := BXr.out.c0
      have q1 := BXr.out.c1
      have q2 := BXr.out.c2
      have q3 := BXr.out.c3
      have q4 := BXr.out.c4
      have q5 := BXr.out.c5
      have q6 := BXr.out.c6
      clear hI3 htake hxk htk hxF hgap hbl
      have hxz : (x : Int) < (n : Int) := by omega
      go_wp2_with fail
      refine (most_any s wr).mono ?_
      rintro e w4 ⟨rfl, hb4⟩
      have HK4 := Lib.hid (HK.out.next hb4)
      have HROW := Lib.hid (HK4.out.row x (mostS s 0) (mostS s 1) (mostS s 2) (mostS s 3) (mostS s 4))
      have p0 := HK4.out.cell (k := x) (c := 0) hxn (by omega)
      have p1 := HK4.out.cell (k := x) (c := 1) hxn (by omega)
      have p2 := HK4.out.cell (k := x) (c := 2) hxn (by omega)
      have p3 := HK4.out.cell (k := x) (c := 3) hxn (by omega)
      have p4 := HK4.out.cell (k := x) (c := 4) hxn (by omega)
      rw [Nat.add_zero] at p0
      have f0 := HK4.out.frozen (x * 5)
      have f1 := HK4.out.frozen (x * 5 + 1)
      have f2 := HK4.out.frozen (x * 5 + 2)
      have f3 := HK4.out.frozen (x * 5 + 3)
      have f4 := HK4.out.frozen (x * 5 + 4)
      unfold mostV
      obtain ⟨m0, hm0⟩ : ∃ y, mostS s 0 = y := ⟨_, rfl⟩
      obtain ⟨u0, hu0⟩ : ∃ y, firstT g F s m x 0 = y := ⟨_, rfl⟩
      rw [hu0] at p0
      obtain ⟨m1, hm1⟩ : ∃ y, mostS s 1 = y := ⟨_, rfl⟩
      obtain ⟨u1, hu1⟩ : ∃ y, firstT g F s m x 1 = y := ⟨_, rfl⟩
      rw [hu1] at p1
      obtain ⟨m2, hm2⟩ : ∃ y, mostS s 2 = y := ⟨_, rfl⟩
      obtain ⟨u2, hu2⟩ : ∃ y, firstT g F s m x 2 = y := ⟨_, rfl⟩
      rw [hu2] at p2
      obtain ⟨m3, hm3⟩ : ∃ y, mostS s 3 = y := ⟨_, rfl⟩
      obtain ⟨u3, hu3⟩ : ∃ y, firstT g F s m x 3 = y := ⟨_, rfl⟩
      rw [hu3] at p3
      obtain ⟨m4, hm4⟩ : ∃ y, mostS s 4 = y := ⟨_, rfl⟩
      obtain ⟨u4, hu4⟩ : ∃ y, firstT g F s m x 4 = y := ⟨_, rfl⟩
      rw [hu4] at p4
      rw [hm0, hm1, hm2, hm3, hm4] at HROW ⊢
      have HMS : Hid (mostS s 0 = m0 ∧ mostS s 1 = m1 ∧ mostS s 2 = m2 ∧ mostS s 3 = m3 ∧ mostS s 4 = m4) := Lib.hid ⟨hm0, hm1, hm2, hm3, hm4⟩
      clear hb4 hm0 hm1 hm2 hm3 hm4 hu0 hu1 hu2 hu3 hu4 hcl q0 q1 q2 q3 q4 q5 q6
      go_wp2
      go_roundw
      case rel => exact ⟨k + 1, x + 1, by omega, by go_num, by omega, HTK.out, HROW.out.ext fun k' c' _ hc' => by
        rw [first_step c' HXF.out hmx HGAP.out]
        obtain ⟨e0, e1, e2, e3, e4⟩ := HMS.out
        rw [← e0, ← e1, ← e2, ← e3, ← e4]
        split
        · rcases (show c' = 0 ∨ c' = 1 ∨ c' = 2 ∨ c' = 3 ∨ c' = 4 by omega) with h | h | h | h | h <;> rw [h] <;> rfl
        · rfl⟩
      case measure => simp [intOf]; omega
    · have hkn : k = n3 := by omega
      subst hkn
      have hend := take_end (p := selP g F s) (n := n) (by rw [← htake, List.take_of_length_le (by rw [HL3.out]; omega)]) hm
      have HT1 : Hid (Tab W hb n (leftT g F s 0) wr) := Lib.hid (HK.out.ext fun k c hk _ => by
        rw [first_end c (by rw [HL.out]; exact hm) (fun y h1 h2 => hend y h1 (by rw [← HL.out]; exact h2)) (by rw [HL.out]; exact hk), left_start HS.out c (by rw [HL.out]; exact hk)])
      clear htake hend
      go_wp2
      go_loopw [12, 34] (fun v i wr => ∃ k m : Nat, k ≤ n2 ∧ i = .int .i64 k ∧ m ≤ 256 ∧ F.take k = numsF (fun j => hasB F (j : Int)) m ∧ TakeR W hb n (leftT g F s m) v (numsF (findP g F s) (min m n)) wr) (fun _ i _ => n2 - (intOf i).toNat)
      case atStart => exact ⟨0, 0, Nat.zero_le _, rfl, Nat.zero_le _, by simp [numsF], by rw [Nat.zero_min]; exact TakeR.start HT1.out⟩
      case round =>
        obtain ⟨k, m, hk, rfl, hm, htake, hrel⟩ := hrel
        have HK := Lib.hid hrel
        clear hrel
        have hbw := HB0.out.trans (HK.out.tab.bel.mono HB0.out.size)
        obtain ⟨hRk, hIk, _⟩ := HRB.out wr hbw
        clear hbw
        by_cases hlt : k < n2
        · have HRk := Lib.hid hRk
          obtain ⟨x, hmx, hx256, hxk, hxF, hgap, htk⟩ := take_next (by rw [← HSET.out, HL2.out]; exact hlt) (by rw [← HSET.out]; exact htake) hm
          rw [← HSET.out] at hxk htk
          obtain ⟨b, off, rfl, _, hcl⟩ := hIk.one hlt
          rw [hxk] at hcl
          have HTK := Lib.hid htk
          have HXF := Lib.hid hxF
          have HGAP := Lib.hid hgap
          have hlen : Hid ((numsF (findP g F s) (min m n)).length ≤ 1000) := Lib.hid (by have := numsF_len (findP g F s) (min m n); omega)
          clear hIk hRk htake hxk htk hxF hgap
          by_cases hxn : x < n
          · have HGAPF : Hid (numsF (findP g F s) x = numsF (findP g F s) (min m n)) := Lib.hid (by
              rw [Nat.min_eq_left (by omega)]
              exact numsF_gap hmx fun y h1 h2 => find_unfree (by rw [HL.out]; omega) (HGAP.out y h1 h2))
            rcases home_is HGR.out (x := x) (by rw [HL.out]; exact hxn) with ⟨j, hj, hh, h2, ho, hd⟩ | ⟨hh, hd⟩
            · have hjn : j < n := by rw [HL.out] at hj; exact hj
              have HH := Lib.hid hh
              have HJ := Lib.hid h2
              have HO := Lib.hid ho
              have HRx := Lib.hid HRk.out
              obtain ⟨b2, off2, rfl, _, hc0, _, _, _⟩ := HRk.out.one hxn
              obtain ⟨kd, hkd⟩ : ∃ kd, gk g x = kd := ⟨_, rfl⟩
              rw [hkd] at hc0 hd
              have HD := Lib.hid hkd
              clear hh h2 ho hkd hj
              rcases hd with h | h | h
              · subst h
                have hct := HK.out.tab.cell (k := j) (c := 2) hjn (by omega)
                have hft := HK.out.tab.frozen (j * 5 + 2)
                have hfind := left_find HG.out HS.out (by rw [HL.out]; exact hxn) HJ.out HO.out (d := 2) HD.out HXF.out
                have hlg : leftT g F s x j 2 = leftT g F s m j 2 := left_gap hmx HGAP.out
                rw [hlg] at hfind
                have hrng := left_range (g := g) (F := F) (m := m) (k := j) HS.out 2
                have hjz : (j : Int) < (n : Int) := by omega
                by_cases hy : 0 < leftT g F s m j 2
                · have HT4 : Hid (∀ q, TakeR W hb n (leftT g F s (x + 1)) _ (numsF (findP g F s) (min m n)) ((wr.drewN q).setCell ⟨hb, j * 5 + 2, none⟩ (.int .i64 (leftT g F s m j 2 - 1)))) := Lib.hid (fun q => ((HK.out.next (bel_drew wr q)).set (by omega) j (leftT g F s m j 2 - 1)).ext fun k c hk _ => by
                    rw [left_take HG.out (by rw [HL.out]; exact hxn) HJ.out HO.out (d := 2) HD.out HXF.out (by rw [hlg]; exact hy) c]
                    unfold upT
                    rw [left_gap hmx HGAP.out, left_gap hmx HGAP.out])
                  have HFI : Hid (numsF (findP g F s) (min (x + 1) n) = numsF (findP g F s) (min m n) ++ [(x : Int)]) := Lib.hid (by
                    rw [Nat.min_eq_left (by omega), numsF_yes (by rw [hfind]; exact decide_eq_true hy), HGAPF.out])
                  have hyd : decide ((0 : Int) < leftT g F s m j 2) = true := decide_eq_true hy
                  obtain ⟨y, hyy⟩ : ∃ y, leftT g F s m j 2 = y := ⟨_, rfl⟩
                  rw [hyy] at hct HT4 hyd hrng hy
                  clear hyy hfind hlg
                  go_wp2_with fail
                  refine (home_b HRx.out hn256 (by omega) HH.out).mono ?_
                  rintro e w4 ⟨rfl, rfl⟩
                  go_wp2
                  go_quiet (fail)
                  go_wp2
                  go_region
                  all_goals go_wp2_with (at_builtin; refine wpList_append_TR rfl (.tmp 71) (.tmp 73) rfl (HT4.out _) rfl _ (by first | rfl | (simp; rfl)) hlen.out ?_; intro v' w5 hR5; refine Hid.out ?_)
                  refine Lib.hid ?_
                  have HR5 := Lib.hid hR5
                  clear hR5
                  go_wp2
                  go_roundw
                  case rel => exact ⟨k + 1, x + 1, by omega, by go_num, by omega, HTK.out, by rw [HFI.out]; exact HR5.out⟩
                  case measure => simp [intOf]; omega
                · have HT4 : Hid (TakeR W hb n (leftT g F s (x + 1)) _ (numsF (findP g F s) (min (x + 1) n)) wr) := Lib.hid (by
                    rw [Nat.min_eq_left (by omega), numsF_no (by rw [hfind]; exact decide_eq_false hy), HGAPF.out]
                    exact HK.out.ext fun k c hk _ => by rw [left_none HG.out (by rw [HL.out]; exact hxn) HJ.out HO.out (d := 2) HD.out (by rw [hlg]; exact hy) c, left_gap hmx HGAP.out])
                  have hyd : decide ((0 : Int) < leftT g F s m j 2) = false := decide_eq_false hy
                  obtain ⟨y, hyy⟩ : ∃ y, leftT g F s m j 2 = y := ⟨_, rfl⟩
                  rw [hyy] at hct hyd hrng
                  clear hyy hfind hlg hy
                  go_wp2_with fail
                  refine (home_b HRx.out hn256 (by omega) HH.out).mono ?_
                  rintro e w4 ⟨rfl, rfl⟩
                  go_wp2
                  go_quiet (fail)
                  go_wp2
                  go_roundw
                  case rel => exact ⟨k + 1, x + 1, by omega, by go_num, by omega, HTK.out, HT4.out.next (bel_drew wr _)⟩
                  case measure => simp [intOf]; omega
              · subst h
                have hct := HK.out.tab.cell (k := j) (c := 3) hjn (by omega)
                have hft := HK.out.tab.frozen (j * 5 + 3)
                have hfind := left_find HG.out HS.out (by rw [HL.out]; exact hxn) HJ.out HO.out (d := 3) HD.out HXF.out
                have hlg : leftT g F s x j 3 = leftT g F s m j 3 := left_gap hmx HGAP.out
                rw [hlg] at hfind
                have hrng := left_range (g := g) (F := F) (m := m) (k := j) HS.out 3
                have hjz : (j : Int) < (n : Int) := by omega
                by_cases hy : 0 < leftT g F s m j 3
                · have HT4 : Hid (∀ q, TakeR W hb n (leftT g F s (x + 1)) _ (numsF (findP g F s) (min m n)) ((wr.drewN q).setCell ⟨hb, j * 5 + 3, none⟩ (.int .i64 (leftT g F s m j 3 - 1)))) := Lib.hid (fun q => ((HK.out.next (bel_drew wr q)).set (by omega) j (leftT g F s m j 3 - 1)).ext fun k c hk _ => by
                    rw [left_take HG.out (by rw [HL.out]; exact hxn) HJ.out HO.out (d := 3) HD.out HXF.out (by rw [hlg]; exact hy) c]
                    unfold upT
                    rw [left_gap hmx HGAP.out, left_gap hmx HGAP.out])
                  have HFI : Hid (numsF (findP g F s) (min (x + 1) n) = numsF (findP g F s) (min m n) ++ [(x : Int)]) := Lib.hid (by
                    rw [Nat.min_eq_left (by omega), numsF_yes (by rw [hfind]; exact decide_eq_true hy), HGAPF.out])
                  have hyd : decide ((0 : Int) < leftT g F s m j 3) = true := decide_eq_true hy
                  obtain ⟨y, hyy⟩ : ∃ y, leftT g F s m j 3 = y := ⟨_, rfl⟩
                  rw [hyy] at hct HT4 hyd hrng hy
                  clear hyy hfind hlg
                  go_wp2_with fail
                  refine (home_b HRx.out hn256 (by omega) HH.out).mono ?_
                  rintro e w4 ⟨rfl, rfl⟩
                  go_wp2
                  go_quiet (fail)
                  go_wp2
                  go_region
                  all_goals go_wp2_with (at_builtin; refine wpList_append_TR rfl (.tmp 71) (.tmp 73) rfl (HT4.out _) rfl _ (by first | rfl | (simp; rfl)) hlen.out ?_; intro v' w5 hR5; refine Hid.out ?_)
                  refine Lib.hid ?_
                  have HR5 := Lib.hid hR5
                  clear hR5
                  go_wp2
                  go_roundw
                  case rel => exact ⟨k + 1, x + 1, by omega, by go_num, by omega, HTK.out, by rw [HFI.out]; exact HR5.out⟩
                  case measure => simp [intOf]; omega
                · have HT4 : Hid (TakeR W hb n (leftT g F s (x + 1)) _ (numsF (findP g F s) (min (x + 1) n)) wr) := Lib.hid (by
                    rw [Nat.min_eq_left (by omega), numsF_no (by rw [hfind]; exact decide_eq_false hy), HGAPF.out]
                    exact HK.out.ext fun k c hk _ => by rw [left_none HG.out (by rw [HL.out]; exact hxn) HJ.out HO.out (d := 3) HD.out (by rw [hlg]; exact hy) c, left_gap hmx HGAP.out])
                  have hyd : decide ((0 : Int) < leftT g F s m j 3) = false := decide_eq_false hy
                  obtain ⟨y, hyy⟩ : ∃ y, leftT g F s m j 3 = y := ⟨_, rfl⟩
                  rw [hyy] at hct hyd hrng
                  clear hyy hfind hlg hy
                  go_wp2_with fail
                  refine (home_b HRx.out hn256 (by omega) HH.out).mono ?_
                  rintro e w4 ⟨rfl, rfl⟩
                  go_wp2
                  go_quiet (fail)
                  go_wp2
                  go_roundw
                  case rel => exact ⟨k + 1, x + 1, by omega, by go_num, by omega, HTK.out, HT4.out.next (bel_drew wr _)⟩
                  case measure => simp [intOf]; omega
              · subst h
                have hct := HK.out.tab.cell (k := j) (c := 4) hjn (by omega)
                have hft := HK.out.tab.frozen (j * 5 + 4)
                have hfind := left_find HG.out HS.out (by rw [HL.out]; exact hxn) HJ.out HO.out (d := 4) HD.out HXF.out
                have hlg : leftT g F s x j 4 = leftT g F s m j 4 := left_gap hmx HGAP.out
                rw [hlg] at hfind
                have hrng := left_range (g := g) (F := F) (m := m) (k := j) HS.out 4
                have hjz : (j : Int) < (n : Int) := by omega
                by_cases hy : 0 < leftT g F s m j 4
                · have HT4 : Hid (∀ q, TakeR W hb n (leftT g F s (x + 1)) _ (numsF (findP g F s) (min m n)) ((wr.drewN q).setCell ⟨hb, j * 5 + 4, none⟩ (.int .i64 (leftT g F s m j 4 - 1)))) := Lib.hid (fun q => ((HK.out.next (bel_drew wr q)).set (by omega) j (leftT g F s m j 4 - 1)).ext fun k c hk _ => by
                    rw [left_take HG.out (by rw [HL.out]; exact hxn) HJ.out HO.out (d := 4) HD.out HXF.out (by rw [hlg]; exact hy) c]
                    unfold upT
                    rw [left_gap hmx HGAP.out, left_gap hmx HGAP.out])
                  have HFI : Hid (numsF (findP g F s) (min (x + 1) n) = numsF (findP g F s) (min m n) ++ [(x : Int)]) := Lib.hid (by
                    rw [Nat.min_eq_left (by omega), numsF_yes (by rw [hfind]; exact decide_eq_true hy), HGAPF.out])
                  have hyd : decide ((0 : Int) < leftT g F s m j 4) = true := decide_eq_true hy
                  obtain ⟨y, hyy⟩ : ∃ y, leftT g F s m j 4 = y := ⟨_, rfl⟩
                  rw [hyy] at hct HT4 hyd hrng hy
                  clear hyy hfind hlg
                  go_wp2_with fail
                  refine (home_b HRx.out hn256 (by omega) HH.out).mono ?_
                  rintro e w4 ⟨rfl, rfl⟩
                  go_wp2
                  go_quiet (fail)
                  go_wp2
                  go_region
                  all_goals go_wp2_with (at_builtin; refine wpList_append_TR rfl (.tmp 71) (.tmp 73) rfl (HT4.out _) rfl _ (by first | rfl | (simp; rfl)) hlen.out ?_; intro v' w5 hR5; refine Hid.out ?_)
                  refine Lib.hid ?_
                  have HR5 := Lib.hid hR5
                  clear hR5
                  go_wp2
                  go_roundw
                  case rel => exact ⟨k + 1, x + 1, by omega, by go_num, by omega, HTK.out, by rw [HFI.out]; exact HR5.out⟩
                  case measure => simp [intOf]; omega
                · have HT4 : Hid (TakeR W hb n (leftT g F s (x + 1)) _ (numsF (findP g F s) (min (x + 1) n)) wr) := Lib.hid (by
                    rw [Nat.min_eq_left (by omega), numsF_no (by rw [hfind]; exact decide_eq_false hy), HGAPF.out]
                    exact HK.out.ext fun k c hk _ => by rw [left_none HG.out (by rw [HL.out]; exact hxn) HJ.out HO.out (d := 4) HD.out (by rw [hlg]; exact hy) c, left_gap hmx HGAP.out])
                  have hyd : decide ((0 : Int) < leftT g F s m j 4) = false := decide_eq_false hy
                  obtain ⟨y, hyy⟩ : ∃ y, leftT g F s m j 4 = y := ⟨_, rfl⟩
                  rw [hyy] at hct hyd hrng
                  clear hyy hfind hlg hy
                  go_wp2_with fail
                  refine (home_b HRx.out hn256 (by omega) HH.out).mono ?_
                  rintro e w4 ⟨rfl, rfl⟩
                  go_wp2
                  go_quiet (fail)
                  go_wp2
                  go_roundw
                  case rel => exact ⟨k + 1, x + 1, by omega, by go_num, by omega, HTK.out, HT4.out.next (bel_drew wr _)⟩
                  case measure => simp [intOf]; omega
            · have HN : Hid (TakeR W hb n (leftT g F s (x + 1)) _ (numsF (findP g F s) (min (x + 1) n)) wr) := Lib.hid (by
                rw [Nat.min_eq_left (by omega), numsF_no (find_homeless HG.out (by rw [HL.out]; exact hxn) hd), HGAPF.out]
                exact HK.out.ext fun k c _ _ => by rw [left_skip hd, left_gap hmx HGAP.out])
              have HH := Lib.hid hh
              clear hh hd
              go_wp2_with fail
              refine (home_b HRk.out hn256 (by omega) HH.out).mono ?_
              rintro e w4 ⟨rfl, rfl⟩
              go_wp2
              go_quiet (fail)
              go_wp2
              go_roundw
              case rel => exact ⟨k + 1, x + 1, by omega, by go_num, by omega, HTK.out, HN.out.next (bel_drew wr _)⟩
              case measure => simp [intOf]; omega
          · have hfar := far_kind (g := g) (x := x) (by rw [HL.out]; omega)
            have HN : Hid (TakeR W hb n (leftT g F s (x + 1)) _ (numsF (findP g F s) (min (x + 1) n)) wr) := Lib.hid (by
              have e : numsF (findP g F s) (min (x + 1) n) = numsF (findP g F s) (min m n) := by
                rw [Nat.min_eq_right (by omega)]
                exact numsF_gap (Nat.min_le_right _ _) fun y h1 h2 => find_unfree (by rw [HL.out]; omega) (HGAP.out y (by omega) (by omega))
              rw [e]
              exact HK.out.ext fun k c _ _ => by rw [left_skip (.inl hfar), left_gap hmx HGAP.out])
            have HH := Lib.hid (home_far (g := g) (x := x) (by rw [HL.out]; omega))
            clear hfar
            go_wp2_with fail
            refine (home_b HRk.out hn256 (by omega) HH.out).mono ?_
            rintro e w4 ⟨rfl, rfl⟩
            go_wp2
            go_quiet (fail)
            go_wp2
            go_roundw
            case rel => exact ⟨k + 1, x + 1, by omega, by go_num, by omega, HTK.out, HN.out.next (bel_drew wr _)⟩
            case measure => simp [intOf]; omega
        · have hkn : k = n2 := by omega
          subst hkn
          have hend := take_end (p := fun j => hasB F (j : Int)) (n := 256) (by rw [← HSET.out, ← htake, List.take_of_length_le (by rw [HL2.out]; omega)]) hm
          have HP : Hid (∀ v, TakeR W hb n (leftT g F s m) v (numsF (findP g F s) (min m n)) wr → IPostN (numsF (findP g F s) n) w (.returned v) wr) := Lib.hid (fun v h => by
            have e : numsF (findP g F s) n = numsF (findP g F s) (min m n) := numsF_gap (Nat.min_le_right _ _) fun y h1 h2 => find_unfree (by rw [HL.out]; exact h2) (hend y (by omega) (by omega))
            rw [e]
            exact h.post.trans HB0.out)
          clear hRk hIk htake hend
          go_wp2
          go_ret
          exact HP.out _ HK.out

end Go.Proofs.YtchogijdkagiiaaGreatDoor
