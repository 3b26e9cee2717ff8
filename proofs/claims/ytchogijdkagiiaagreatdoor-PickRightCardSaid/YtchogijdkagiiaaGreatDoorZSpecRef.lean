/- The reference's functions of layer 7 (bailiwickref07): Right, Ends, Ahead: what they answer of any spec. -/
import Derived.IntWalk
import Derived.Test.YtchogijdkagiiaaGreatDoorMg01
import Derived.Test.YtchogijdkagiiaaGreatDoorMg04
namespace Go.Proofs.YtchogijdkagiiaaGreatDoor
open Go.RowKit

set_option maxRecDepth 100000 in
set_option maxHeartbeats 4000000 in
theorem refRightV_any (sn sc sg : Int) (st : ByteArray) (sw : Bool) (sl sp : Int) (w : World) (hm : st.size ≤ maxLen) :
    Calls Tryz.prog 51 #[.agg #[.int .i64 sn, .int .i64 sc, .int .i64 sg, .string st, .bool sw, .int .i64 sl, .int .i64 sp]] w fun e w' => e = .returned (.bool (rightS ⟨sn, sc, sg, st, sw, sl, sp⟩)) ∧ Below w.heap.size w w' := by
  have HM := Lib.hid hm
  clear hm
  have HB : Hid (Below w.heap.size w (w.alloc (.cells #[.int .i64 sn, .int .i64 sc, .int .i64 sg, .string st, .bool sw, .int .i64 sl, .int .i64 sp] 27))) := Lib.hid ((Below.refl _ _).alloc (Nat.le_refl _) _)
  have hno0 := rightS_no (s := ⟨sn, sc, sg, st, sw, sl, sp⟩)
  have hyes0 := rightS_mk (s := ⟨sn, sc, sg, st, sw, sl, sp⟩)
  dsimp only at hno0 hyes0
  have hno := Lib.hid hno0
  have hyes := Lib.hid hyes0
  clear hno0 hyes0
  by_cases k0 : sn < 1
  · have e1 := Lib.hid (hno.out (fun h => by omega))
    clear hno hyes
    go_enter Tryz.func51, Tryz.ntmps51
    go_wp2
    go_ret
    exact ⟨ret_bool e1.out, HB.out⟩
  · have d0 : decide (sn < 1) = false := by simpa using k0
    by_cases k1 : 64 < sn
    · have e1 := Lib.hid (hno.out (fun h => by omega))
      clear hno hyes
      go_enter Tryz.func51, Tryz.ntmps51
      go_wp2
      go_ret
      exact ⟨ret_bool e1.out, HB.out⟩
    · have d1 : decide (64 < sn) = false := by simpa using k1
      by_cases k2 : sc < 0
      · have e1 := Lib.hid (hno.out (fun h => by omega))
        clear hno hyes
        go_enter Tryz.func51, Tryz.ntmps51
        go_wp2
        go_ret
        exact ⟨ret_bool e1.out, HB.out⟩
      · have d2 : decide (sc < 0) = false := by simpa using k2
        by_cases k3 : 64 < sc
        · have e1 := Lib.hid (hno.out (fun h => by omega))
          clear hno hyes
          go_enter Tryz.func51, Tryz.ntmps51
          go_wp2
          go_ret
          exact ⟨ret_bool e1.out, HB.out⟩
        · have d3 : decide (64 < sc) = false := by simpa using k3
          by_cases k4 : sg < 0
          · have e1 := Lib.hid (hno.out (fun h => by omega))
            clear hno hyes
            go_enter Tryz.func51, Tryz.ntmps51
            go_wp2
            go_ret
            exact ⟨ret_bool e1.out, HB.out⟩
          · have d4 : decide (sg < 0) = false := by simpa using k4
            by_cases k5 : 64 < sg
            · have e1 := Lib.hid (hno.out (fun h => by omega))
              clear hno hyes
              go_enter Tryz.func51, Tryz.ntmps51
              go_wp2
              go_ret
              exact ⟨ret_bool e1.out, HB.out⟩
            · have d5 : decide (64 < sg) = false := by simpa using k5
              by_cases kz : sc = 0 ∧ sg = 0 ∧ sw = false
              · have e1 := Lib.hid (hno.out (fun h => h.2.2.2.2.1 kz))
                obtain ⟨rfl, rfl, rfl⟩ := kz
                clear hno hyes
                go_enter Tryz.func51, Tryz.ntmps51
                go_wp2
                go_ret
                exact ⟨ret_bool e1.out, HB.out⟩
              · have kz1 : sc = 0 ∨ (sc == 0) = false := by by_cases e : sc = 0; exact .inl e; exact .inr (by simpa using e)
                have kz2 : sg = 0 ∨ (sg == 0) = false := by by_cases e : sg = 0; exact .inl e; exact .inr (by simpa using e)
                have KZ := Lib.hid kz
                clear kz
                cases ht : tagB st with
                | false =>
                  have e1 := Lib.hid (hno.out (fun h => by rw [h.1] at ht; cases ht))
                  have HT := Lib.hid ht
                  clear hno hyes ht
                  rcases kz1 with rfl | kz1
                  · rcases kz2 with rfl | kz2
                    · have hsw : sw = true := by
                        cases sw with
                        | true => rfl
                        | false => exact absurd ⟨rfl, rfl, rfl⟩ KZ.out
                      subst hsw
                      go_enter Tryz.func51, Tryz.ntmps51
                      go_wp2_with fail
                      refine (refTag_b HM.out HT.out).mono ?_
                      rintro e w1 ⟨rfl, rfl⟩
                      go_wp2
                      go_ret
                      exact ⟨ret_bool e1.out, HB.out⟩
                    · go_enter Tryz.func51, Tryz.ntmps51
                      go_wp2_with fail
                      refine (refTag_b HM.out HT.out).mono ?_
                      rintro e w1 ⟨rfl, rfl⟩
                      go_wp2
                      go_ret
                      exact ⟨ret_bool e1.out, HB.out⟩
                  · go_enter Tryz.func51, Tryz.ntmps51
                    go_wp2_with fail
                    refine (refTag_b HM.out HT.out).mono ?_
                    rintro e w1 ⟨rfl, rfl⟩
                    go_wp2
                    go_ret
                    exact ⟨ret_bool e1.out, HB.out⟩
                | true =>
                  have HT := Lib.hid ht
                  by_cases k6 : sl < 1
                  · have e1 := Lib.hid (hno.out (fun h => by omega))
                    have d6 : decide (1 ≤ sl) = false := by simp; omega
                    clear hno hyes ht
                    rcases kz1 with rfl | kz1
                    · rcases kz2 with rfl | kz2
                      · have hsw : sw = true := by
                          cases sw with
                          | true => rfl
                          | false => exact absurd ⟨rfl, rfl, rfl⟩ KZ.out
                        subst hsw
                        go_enter Tryz.func51, Tryz.ntmps51
                        go_wp2_with fail
                        refine (refTag_b HM.out HT.out).mono ?_
                        rintro e w1 ⟨rfl, rfl⟩
                        go_wp2
                        go_ret
                        exact ⟨ret_bool e1.out, HB.out⟩
                      · go_enter Tryz.func51, Tryz.ntmps51
                        go_wp2_with fail
                        refine (refTag_b HM.out HT.out).mono ?_
                        rintro e w1 ⟨rfl, rfl⟩
                        go_wp2
                        go_ret
                        exact ⟨ret_bool e1.out, HB.out⟩
                    · go_enter Tryz.func51, Tryz.ntmps51
                      go_wp2_with fail
                      refine (refTag_b HM.out HT.out).mono ?_
                      rintro e w1 ⟨rfl, rfl⟩
                      go_wp2
                      go_ret
                      exact ⟨ret_bool e1.out, HB.out⟩
                  · have d6 : decide (1 ≤ sl) = true := by simp; omega
                    by_cases k7 : 1099511627776 < sl
                    · have e1 := Lib.hid (hno.out (fun h => by omega))
                      have d7 : decide (sl ≤ 1099511627776) = false := by simp; omega
                      clear hno hyes ht
                      rcases kz1 with rfl | kz1
                      · rcases kz2 with rfl | kz2
                        · have hsw : sw = true := by
                            cases sw with
                            | true => rfl
                            | false => exact absurd ⟨rfl, rfl, rfl⟩ KZ.out
                          subst hsw
                          go_enter Tryz.func51, Tryz.ntmps51
                          go_wp2_with fail
                          refine (refTag_b HM.out HT.out).mono ?_
                          rintro e w1 ⟨rfl, rfl⟩
                          go_wp2
                          go_ret
                          exact ⟨ret_bool e1.out, HB.out⟩
                        · go_enter Tryz.func51, Tryz.ntmps51
                          go_wp2_with fail
                          refine (refTag_b HM.out HT.out).mono ?_
                          rintro e w1 ⟨rfl, rfl⟩
                          go_wp2
                          go_ret
                          exact ⟨ret_bool e1.out, HB.out⟩
                      · go_enter Tryz.func51, Tryz.ntmps51
                        go_wp2_with fail
                        refine (refTag_b HM.out HT.out).mono ?_
                        rintro e w1 ⟨rfl, rfl⟩
                        go_wp2
                        go_ret
                        exact ⟨ret_bool e1.out, HB.out⟩
                    · have d7 : decide (sl ≤ 1099511627776) = true := by simp; omega
                      by_cases k8 : sp < -1000
                      · have e1 := Lib.hid (hno.out (fun h => by omega))
                        have d8 : decide (-1000 ≤ sp) = false := by simp; omega
                        clear hno hyes ht
                        rcases kz1 with rfl | kz1
                        · rcases kz2 with rfl | kz2
                          · have hsw : sw = true := by
                              cases sw with
                              | true => rfl
                              | false => exact absurd ⟨rfl, rfl, rfl⟩ KZ.out
                            subst hsw
                            go_enter Tryz.func51, Tryz.ntmps51
                            go_wp2_with fail
                            refine (refTag_b HM.out HT.out).mono ?_
                            rintro e w1 ⟨rfl, rfl⟩
                            go_wp2
                            go_ret
                            exact ⟨ret_bool e1.out, HB.out⟩
                          · go_enter Tryz.func51, Tryz.ntmps51
                            go_wp2_with fail
                            refine (refTag_b HM.out HT.out).mono ?_
                            rintro e w1 ⟨rfl, rfl⟩
                            go_wp2
                            go_ret
                            exact ⟨ret_bool e1.out, HB.out⟩
                        · go_enter Tryz.func51, Tryz.ntmps51
                          go_wp2_with fail
                          refine (refTag_b HM.out HT.out).mono ?_
                          rintro e w1 ⟨rfl, rfl⟩
                          go_wp2
                          go_ret
                          exact ⟨ret_bool e1.out, HB.out⟩
                      · have d8 : decide (-1000 ≤ sp) = true := by simp; omega
                        by_cases k9 : 1000 < sp
                        · have e1 := Lib.hid (hno.out (fun h => by omega))
                          have d9 : decide (sp ≤ 1000) = false := by simp; omega
                          clear hno hyes ht
                          rcases kz1 with rfl | kz1
                          · rcases kz2 with rfl | kz2
                            · have hsw : sw = true := by
                                cases sw with
                                | true => rfl
                                | false => exact absurd ⟨rfl, rfl, rfl⟩ KZ.out
                              subst hsw
                              go_enter Tryz.func51, Tryz.ntmps51
                              go_wp2_with fail
                              refine (refTag_b HM.out HT.out).mono ?_
                              rintro e w1 ⟨rfl, rfl⟩
                              go_wp2
                              go_ret
                              exact ⟨ret_bool e1.out, HB.out⟩
                            · go_enter Tryz.func51, Tryz.ntmps51
                              go_wp2_with fail
                              refine (refTag_b HM.out HT.out).mono ?_
                              rintro e w1 ⟨rfl, rfl⟩
                              go_wp2
                              go_ret
                              exact ⟨ret_bool e1.out, HB.out⟩
                          · go_enter Tryz.func51, Tryz.ntmps51
                            go_wp2_with fail
                            refine (refTag_b HM.out HT.out).mono ?_
                            rintro e w1 ⟨rfl, rfl⟩
                            go_wp2
                            go_ret
                            exact ⟨ret_bool e1.out, HB.out⟩
                        · have d9 : decide (sp ≤ 1000) = true := by simp; omega
                          have e1 := Lib.hid (hyes.out ⟨ht, ⟨by omega, by omega⟩, ⟨by omega, by omega⟩, ⟨by omega, by omega⟩, KZ.out, ⟨by omega, by omega⟩, by omega, by omega⟩)
                          clear hno hyes ht
                          rcases kz1 with rfl | kz1
                          · rcases kz2 with rfl | kz2
                            · have hsw : sw = true := by
                                cases sw with
                                | true => rfl
                                | false => exact absurd ⟨rfl, rfl, rfl⟩ KZ.out
                              subst hsw
                              go_enter Tryz.func51, Tryz.ntmps51
                              go_wp2_with fail
                              refine (refTag_b HM.out HT.out).mono ?_
                              rintro e w1 ⟨rfl, rfl⟩
                              go_wp2
                              go_ret
                              exact ⟨ret_bool e1.out, HB.out⟩
                            · go_enter Tryz.func51, Tryz.ntmps51
                              go_wp2_with fail
                              refine (refTag_b HM.out HT.out).mono ?_
                              rintro e w1 ⟨rfl, rfl⟩
                              go_wp2
                              go_ret
                              exact ⟨ret_bool e1.out, HB.out⟩
                          · go_enter Tryz.func51, Tryz.ntmps51
                            go_wp2_with fail
                            refine (refTag_b HM.out HT.out).mono ?_
                            rintro e w1 ⟨rfl, rfl⟩
                            go_wp2
                            go_ret
                            exact ⟨ret_bool e1.out, HB.out⟩

end Go.Proofs.YtchogijdkagiiaaGreatDoor
