/- The reference's readers of a graph (bailiwickref05): Tag, Right, Over: what they answer of any list of things. The reference's lists of a graph (bailiwickref05): Under, Above, Node, Whole: what they answer of any list of things. What set.packBoth answers: of two lists of int that are sets the words of both, else none. What set.Join, Meet, Less, Has, Part and Apart answer: of two lists of int, what the document says of sets; the table of trailing zeros as Go's text lays it. What set.Part, Apart and Has, and the reference's Has and Which answer: of lists of int, what the document says of sets. -/
import Derived.LoopTactic
import Derived.Deep.QuietTactic
import Derived.BigQuiet
import Derived.Test.YtpoalgkgomljmaaGreatDoorMg05
import Derived.Test.YtpoalgkgomljmaaGreatDoorMg03
import Derived.Test.YtpoalgkgomljmaaGreatDoorMg01
import Derived.Deep.DeepCutAuto
namespace Go.Proofs.YtpoalgkgomljmaaGreatDoor
open Go.RowKit


set_option maxRecDepth 100000 in
set_option maxHeartbeats 2000000 in
theorem refTag_any (s : ByteArray) (w : World) (hs : s.size ≤ maxLen) :
    Calls Tryz.prog 90 #[.string s] w fun e w' => e = .returned (.bool (tagB s)) ∧ w = w' := by
  unfold maxLen at hs
  go_enter Tryz.func90, Tryz.ntmps90
  go_wp2
  go_loop [3] (fun i => ∃ k : Nat, k ≤ s.size ∧ i = .int .i64 k ∧ (s.data.toList.take k).all tagC = true) (fun i => s.size - (intOf i).toNat)
  case atStart => exact ⟨0, Nat.zero_le _, rfl, rfl⟩
  case round =>
    obtain ⟨k, hk, rfl, hpre⟩ := hrel
    have HP := Lib.hid hpre
    clear hpre
    by_cases hlt : k < s.size
    · have hs1 := Lib.hid (bytes_snoc s k hlt)
      have hno : Hid (tagC s[k] = false → tagB s = false) := Lib.hid (fun h => by
        unfold tagB
        have : s.data.toList.all tagC = false := by
          rw [List.all_eq_false]
          exact ⟨s[k], Array.getElem_mem_toList _, by rw [h]; simp⟩
        rw [this]; rfl)
      have hyes : Hid (tagC s[k] = true → (s.data.toList.take (k + 1)).all tagC = true) := Lib.hid (fun h => by rw [hs1.out, List.all_append, HP.out]; simp [h])
      have hC : Hid (tagC s[k] = ((97 ≤ s[k].toNat && s[k].toNat ≤ 122) || (48 ≤ s[k].toNat && s[k].toNat ≤ 57))) := Lib.hid rfl
      rcases (show s[k].toNat < 48 ∨ (48 ≤ s[k].toNat ∧ s[k].toNat ≤ 57) ∨ (57 < s[k].toNat ∧ s[k].toNat < 97) ∨ (97 ≤ s[k].toNat ∧ s[k].toNat ≤ 122) ∨ 122 < s[k].toNat by omega) with h | ⟨h, h'⟩ | ⟨h, h'⟩ | ⟨h, h'⟩ | h
      · have e1 := Lib.hid (hno.out (by rw [hC.out]; simp; omega))
        clear hno hyes hC hs1
        have d0 : decide (48 ≤ (s[k].toNat : Int)) = false := by simp; omega
        have d1 : decide ((s[k].toNat : Int) ≤ 57) = true := by simp; omega
        have d2 : decide (97 ≤ (s[k].toNat : Int)) = false := by simp; omega
        have d3 : decide ((s[k].toNat : Int) ≤ 122) = true := by simp; omega
        go_wp2
        go_ret
        exact ⟨ret_bool e1.out, rfl⟩
      · have e1 := Lib.hid (hyes.out (by rw [hC.out]; simp; omega))
        clear hno hyes hC hs1
        have d0 : decide (48 ≤ (s[k].toNat : Int)) = true := by simp; omega
        have d1 : decide ((s[k].toNat : Int) ≤ 57) = true := by simp; omega
        have d2 : decide (97 ≤ (s[k].toNat : Int)) = false := by simp; omega
        have d3 : decide ((s[k].toNat : Int) ≤ 122) = true := by simp; omega
        go_wp2
        go_round
        case rel => exact ⟨k + 1, by omega, by go_num, e1.out⟩
        case measure => simp [intOf]; omega
      · have e1 := Lib.hid (hno.out (by rw [hC.out]; simp; omega))
        clear hno hyes hC hs1
        have d0 : decide (48 ≤ (s[k].toNat : Int)) = true := by simp; omega
        have d1 : decide ((s[k].toNat : Int) ≤ 57) = false := by simp; omega
        have d2 : decide (97 ≤ (s[k].toNat : Int)) = false := by simp; omega
        have d3 : decide ((s[k].toNat : Int) ≤ 122) = true := by simp; omega
        go_wp2
        go_ret
        exact ⟨ret_bool e1.out, rfl⟩
      · have e1 := Lib.hid (hyes.out (by rw [hC.out]; simp; omega))
        clear hno hyes hC hs1
        have d0 : decide (48 ≤ (s[k].toNat : Int)) = true := by simp; omega
        have d1 : decide ((s[k].toNat : Int) ≤ 57) = false := by simp; omega
        have d2 : decide (97 ≤ (s[k].toNat : Int)) = true := by simp; omega
        have d3 : decide ((s[k].toNat : Int) ≤ 122) = true := by simp; omega
        go_wp2
        go_round
        case rel => exact ⟨k + 1, by omega, by go_num, e1.out⟩
        case measure => simp [intOf]; omega
      · have e1 := Lib.hid (hno.out (by rw [hC.out]; simp; omega))
        clear hno hyes hC hs1
        have d0 : decide (48 ≤ (s[k].toNat : Int)) = true := by simp; omega
        have d1 : decide ((s[k].toNat : Int) ≤ 57) = false := by simp; omega
        have d2 : decide (97 ≤ (s[k].toNat : Int)) = true := by simp; omega
        have d3 : decide ((s[k].toNat : Int) ≤ 122) = false := by simp; omega
        go_wp2
        go_ret
        exact ⟨ret_bool e1.out, rfl⟩
    · have hkn : k = s.size := by omega
      have hA : Hid (s.data.toList.all tagC = true) := Lib.hid (by have := HP.out; rwa [List.take_of_length_le (by simp; omega)] at this)
      by_cases h16 : s.size ≤ 16
      · have e1 : Hid (tagB s = true) := Lib.hid (by unfold tagB; rw [hA.out, decide_eq_true h16]; rfl)
        have h16d : decide ((s.size : Int) ≤ 16) = true := by simp; omega
        clear hkn
        go_wp2
        go_ret
        exact ⟨ret_bool e1.out, rfl⟩
      · have e1 : Hid (tagB s = false) := Lib.hid (by unfold tagB; rw [decide_eq_false h16, Bool.and_false])
        have h16d : decide ((s.size : Int) ≤ 16) = false := by simp; omega
        clear hkn
        go_wp2
        go_ret
        exact ⟨ret_bool e1.out, rfl⟩
theorem refTag_b {s : ByteArray} {w : World} {b : Bool} (hs : s.size ≤ maxLen) (h : tagB s = b) : Calls Tryz.prog 90 #[.string s] w fun e w' => e = .returned (.bool b) ∧ w = w' := by
  subst h; exact refTag_any s w hs

set_option maxRecDepth 100000 in
set_option maxHeartbeats 8000000 in
theorem refRightG_any (A : Option Addr) (n c : Nat) (g : Gr) (w : World) (hr : RG w w.heap.size A n g) (hn : n ≤ maxLen) :
    Calls Tryz.prog 92 #[.slice A n c] w fun e w' => e = .returned (.bool (rightG g)) ∧ Below w.heap.size w w' := by
  unfold maxLen at hn
  have HR := Lib.hid hr
  clear hr
  by_cases h0 : n = 0
  · have e1 : Hid (rightG g = false) := Lib.hid (by unfold rightG; rw [decide_eq_false_iff_not]; exact fun h => h.1 (List.eq_nil_of_length_eq_zero (by rw [HR.out.len]; exact h0)))
    subst h0
    go_enter Tryz.func92, Tryz.ntmps92
    go_wp2
    go_ret
    exact ⟨ret_bool e1.out, Below.refl _ _⟩
  · by_cases h256 : 256 < n
    · have e1 : Hid (rightG g = false) := Lib.hid (by unfold rightG; rw [decide_eq_false_iff_not, HR.out.len]; omega)
      have h0p : 0 < n := by omega
      have hn0 : ((n : Int) == 0) = false := by simp; omega
      go_enter Tryz.func92, Tryz.ntmps92
      go_wp2
      go_ret
      exact ⟨ret_bool e1.out, Below.refl _ _⟩
    · have h0p : 0 < n := by omega
      have h256d : decide (256 < (n : Int)) = false := by simp; omega
      have hn0 : ((n : Int) == 0) = false := by simp; omega
      go_enter Tryz.func92, Tryz.ntmps92
      go_wp2
      go_loopw [3] (fun i wr => ∃ k : Nat, k ≤ n ∧ i = .int .i64 k ∧ (∀ j, j < k → okT g j) ∧ Below w.heap.size w wr) (fun i _ => n - (intOf i).toNat)
      case atStart => exact ⟨0, Nat.zero_le _, rfl, fun j hj => absurd hj (by omega), Below.refl _ _⟩
      case round =>
        obtain ⟨k, hk, rfl, hpre, hb⟩ := hrel
        have HP := Lib.hid hpre
        have HB := Lib.hid hb
        clear hpre hb
        by_cases hlt : k < n
        · have hRw := Lib.hid (HR.out.next HB.out)
          obtain ⟨b, off, rfl, hbw, hc0, hc1, hc2, hbd⟩ := hRw.out.one hlt
          have hsz := Lib.hid hbd.2.2
          clear hbd
          have hkg : Hid (k < g.length) := Lib.hid (by rw [HR.out.len]; exact hlt)
          obtain ⟨kk, hkk⟩ : ∃ kk, gk g k = kk := ⟨_, rfl⟩
          obtain ⟨uu, huu⟩ : ∃ uu, gu g k = uu := ⟨_, rfl⟩
          obtain ⟨ss, hss⟩ : ∃ ss, gt g k = ss := ⟨_, rfl⟩
          rw [hkk] at hc0
          rw [huu] at hc1
          rw [hss] at hc2 hsz
          have HK := Lib.hid hkk
          have HU := Lib.hid huu
          have HS := Lib.hid hss
          clear hkk huu hss
          have HBA : Hid (Below w.heap.size w (wr.alloc (.cells #[.int .i64 kk, .int .i64 uu, .string ss] 59))) := Lib.hid (HB.out.alloc HB.out.size _)
          by_cases hk0 : k = 0
          · subst hk0
            simp only [Nat.zero_mul, Nat.add_zero] at hc0 hc1 hc2
            have hno : Hid (¬ (kk = 0 ∧ uu = -1 ∧ ss.size = 0) → rightG g = false) := Lib.hid (fun h => rightG_no hkg.out (by rw [okT_zero, HK.out, HU.out, HS.out]; exact h))
            have hyes : Hid ((kk = 0 ∧ uu = -1 ∧ ss.size = 0) → ∀ j, j < 0 + 1 → okT g j) := Lib.hid (fun h j hj => by
              obtain rfl : j = 0 := by omega
              rw [okT_zero, HK.out, HU.out, HS.out]; exact h)
            by_cases h1 : kk = 0
            · by_cases h2 : uu = -1
              · by_cases h3 : ss.size = 0
                · obtain rfl := str_empty h3
                  have e1 := Lib.hid (hyes.out ⟨h1, h2, h3⟩)
                  clear hno hyes h3
                  subst h1 h2
                  go_wp2
                  go_roundw
                  case rel => exact ⟨1, by omega, rfl, e1.out, HBA.out⟩
                  case measure => simp [intOf]; omega
                · have e1 := Lib.hid (hno.out (fun h => h3 h.2.2))
                  obtain ⟨f1, f2, f3, f4⟩ := str_facts h3
                  clear hno hyes h3
                  subst h1 h2
                  go_wp2
                  go_ret
                  exact ⟨ret_bool e1.out, HBA.out⟩
              · have e1 := Lib.hid (hno.out (fun h => h2 h.2.1))
                have h2d : (uu != -1) = true := by simpa using h2
                clear hno hyes
                subst h1
                go_wp2
                go_ret
                exact ⟨ret_bool e1.out, HBA.out⟩
            · have e1 := Lib.hid (hno.out (fun h => h1 h.1))
              have h1d : (kk != 0) = true := by simpa using h1
              clear hno hyes
              go_wp2
              go_ret
              exact ⟨ret_bool e1.out, HBA.out⟩
          · have hkp : 0 < k := by omega
            clear hk0
            have hno : Hid (¬ (0 ≤ uu ∧ uu < k ∧ (ss.size = 0 ∨ kk = 2) ∧ tagB ss = true ∧ ((kk = 1 ∧ gk g uu.toNat = 0) ∨ (kk = 2 ∧ gk g uu.toNat < 2) ∨ ((kk = 3 ∨ kk = 4) ∧ gk g uu.toNat = 2))) → rightG g = false) := Lib.hid (fun h => rightG_no hkg.out (by rw [okT_pos (by omega), HK.out, HU.out, HS.out]; exact h))
            have hyes : Hid ((0 ≤ uu ∧ uu < k ∧ (ss.size = 0 ∨ kk = 2) ∧ tagB ss = true ∧ ((kk = 1 ∧ gk g uu.toNat = 0) ∨ (kk = 2 ∧ gk g uu.toNat < 2) ∨ ((kk = 3 ∨ kk = 4) ∧ gk g uu.toNat = 2))) → ∀ j, j < k + 1 → okT g j) := Lib.hid (fun h j hj => by
              rcases Nat.lt_or_ge j k with h' | h'
              · exact HP.out j h'
              · obtain rfl : j = k := by omega
                rw [okT_pos (by omega), HK.out, HU.out, HS.out]; exact h)
            by_cases h1 : uu < 0
            · have e1 := Lib.hid (hno.out (fun h => by have := h.1; omega))
              clear hno hyes
              go_wp2
              go_ret
              exact ⟨ret_bool e1.out, HBA.out⟩
            · by_cases h2 : (k : Int) ≤ uu
              · have e1 := Lib.hid (hno.out (fun h => by have := h.2.1; omega))
                have h1d : decide (uu < 0) = false := by simpa using h1
                clear hno hyes
                go_wp2
                go_ret
                exact ⟨ret_bool e1.out, HBA.out⟩
              · have h1d : decide (uu < 0) = false := by simpa using h1
                have h2d : decide ((k : Int) ≤ uu) = false := by simpa using h2
                by_cases h3 : ss.size = 0 ∨ kk = 2
                · cases h4 : tagB ss with
                  | true =>
                    have HT := Lib.hid h4
                    clear h4
                    obtain ⟨v, hv⟩ : ∃ v, gk g uu.toNat = v := ⟨_, rfl⟩
                    have HV := Lib.hid hv
                    have hup : uu.toNat < n := by omega
                    obtain ⟨b', off', e', _, hcu, _, _, _⟩ := hRw.out.one hup
                    injection e' with e'
                    injection e' with e1' e2'
                    subst e1' e2'
                    rw [hv] at hcu
                    clear hv
                    obtain ⟨u, rfl⟩ : ∃ u : Nat, uu = (u : Int) := ⟨uu.toNat, by omega⟩
                    rw [Int.toNat_natCast] at hcu HV hno hyes hup
                    rw [HV.out] at hno hyes
                    have hun : (u : Int) < (n : Int) := by omega
                    by_cases h5 : (kk = 1 ∧ v = 0) ∨ (kk = 2 ∧ v < 2) ∨ ((kk = 3 ∨ kk = 4) ∧ v = 2)
                    · have e1 := Lib.hid (hyes.out ⟨by omega, by omega, h3, HT.out, h5⟩)
                      clear hno hyes
                      rcases h3 with h3 | h3
                      · obtain rfl := str_empty h3
                        clear h3
                        rcases h5 with ⟨rfl, rfl⟩ | ⟨rfl, h5⟩ | ⟨rfl | rfl, rfl⟩
                        all_goals
                          go_wp2_with fail
                          refine (refTag_b (by decide) HT.out).mono ?_
                          rintro e w9 ⟨rfl, rfl⟩
                          go_wp2
                          go_roundw
                          case rel => exact ⟨k + 1, by omega, by go_num, e1.out, HBA.out⟩
                          case measure => simp [intOf]; omega
                      · subst h3
                        have h5' : v < 2 := by omega
                        clear h5
                        by_cases h6 : ss.size = 0
                        · obtain rfl := str_empty h6
                          clear h6
                          go_wp2_with fail
                          refine (refTag_b (by decide) HT.out).mono ?_
                          rintro e w9 ⟨rfl, rfl⟩
                          go_wp2
                          go_roundw
                          case rel => exact ⟨k + 1, by omega, by go_num, e1.out, HBA.out⟩
                          case measure => simp [intOf]; omega
                        · obtain ⟨f1, f2, f3, f4⟩ := str_facts h6
                          clear h6
                          go_wp2_with fail
                          refine (refTag_b (by have := tagB_size HT.out; unfold maxLen; omega) HT.out).mono ?_
                          rintro e w9 ⟨rfl, rfl⟩
                          go_wp2
                          go_roundw
                          case rel => exact ⟨k + 1, by omega, by go_num, e1.out, HBA.out⟩
                          case measure => simp [intOf]; omega
                    · have e1 := Lib.hid (hno.out (fun h => h5 h.2.2.2.2))
                      clear hno hyes
                      have hTM : Hid (ss.size ≤ maxLen) := Lib.hid (by have := tagB_size HT.out; unfold maxLen; omega)
                      have kd : ∀ (q : Int), kk = q ∨ (kk == q) = false := fun q => by
                        by_cases h : kk = q
                        · exact .inl h
                        · exact .inr (by simpa using h)
                      have h5a : kk = 1 → (v == 0) = false := fun h => by simp; exact fun hv => h5 (.inl ⟨h, hv⟩)
                      have h5b : kk = 2 → decide (v < 2) = false := fun h => by simp; exact Int.not_lt.1 (fun hv => h5 (.inr (.inl ⟨h, hv⟩)))
                      have h5c : kk = 3 ∨ kk = 4 → (v == 2) = false := fun h => by simp; exact fun hv => h5 (.inr (.inr ⟨h, hv⟩))
                      have K := Lib.hid (And.intro h5a (And.intro h5b h5c))
                      have KD := Lib.hid kd
                      clear h5 h5a h5b h5c kd
                      rcases h3 with h3 | h3
                      · obtain rfl := str_empty h3
                        clear h3
                        rcases KD.out 1 with rfl | k1
                        · have f1 := K.out.1 rfl
                          go_wp2_with fail
                          refine (refTag_b hTM.out HT.out).mono ?_
                          rintro e w9 ⟨rfl, rfl⟩
                          go_wp2
                          go_ret
                          exact ⟨ret_bool e1.out, HBA.out⟩
                        · rcases KD.out 2 with rfl | k2
                          · have f1 := K.out.2.1 rfl
                            go_wp2_with fail
                            refine (refTag_b hTM.out HT.out).mono ?_
                            rintro e w9 ⟨rfl, rfl⟩
                            go_wp2
                            go_ret
                            exact ⟨ret_bool e1.out, HBA.out⟩
                          · rcases KD.out 3 with rfl | k3
                            · have f1 := K.out.2.2 (.inl rfl)
                              go_wp2_with fail
                              refine (refTag_b hTM.out HT.out).mono ?_
                              rintro e w9 ⟨rfl, rfl⟩
                              go_wp2
                              go_ret
                              exact ⟨ret_bool e1.out, HBA.out⟩
                            · rcases KD.out 4 with rfl | k4
                              · have f1 := K.out.2.2 (.inr rfl)
                                go_wp2_with fail
                                refine (refTag_b hTM.out HT.out).mono ?_
                                rintro e w9 ⟨rfl, rfl⟩
                                go_wp2
                                go_ret
                                exact ⟨ret_bool e1.out, HBA.out⟩
                              · go_wp2_with fail
                                refine (refTag_b hTM.out HT.out).mono ?_
                                rintro e w9 ⟨rfl, rfl⟩
                                go_wp2
                                go_ret
                                exact ⟨ret_bool e1.out, HBA.out⟩
                      · subst h3
                        have f5 := K.out.2.1 rfl
                        clear K KD
                        by_cases h6 : ss.size = 0
                        · obtain rfl := str_empty h6
                          clear h6
                          go_wp2_with fail
                          refine (refTag_b hTM.out HT.out).mono ?_
                          rintro e w9 ⟨rfl, rfl⟩
                          go_wp2
                          go_ret
                          exact ⟨ret_bool e1.out, HBA.out⟩
                        · obtain ⟨f1, f2, f3, f4⟩ := str_facts h6
                          clear h6
                          go_wp2_with fail
                          refine (refTag_b hTM.out HT.out).mono ?_
                          rintro e w9 ⟨rfl, rfl⟩
                          go_wp2
                          go_ret
                          exact ⟨ret_bool e1.out, HBA.out⟩
                  | false =>
                    have e1 := Lib.hid (hno.out (fun h => by rw [h.2.2.2.1] at h4; cases h4))
                    have HT := Lib.hid h4
                    clear hno hyes h4
                    rcases h3 with h3 | h3
                    · obtain rfl := str_empty h3
                      have := HT.out
                      exact absurd this (by decide)
                    · subst h3
                      by_cases h6 : ss.size = 0
                      · obtain rfl := str_empty h6
                        have := HT.out
                        exact absurd this (by decide)
                      · obtain ⟨f1, f2, f3, f4⟩ := str_facts h6
                        clear h6
                        go_wp2_with fail
                        refine (refTag_b hsz.out HT.out).mono ?_
                        rintro e w9 ⟨rfl, rfl⟩
                        go_wp2
                        go_ret
                        exact ⟨ret_bool e1.out, HBA.out⟩
                · have e1 := Lib.hid (hno.out (fun h => h3 h.2.2.1))
                  clear hno hyes
                  have h3a : ss.size ≠ 0 := fun h => h3 (.inl h)
                  have h3b : (kk != 2) = true := by simp; exact fun h => h3 (.inr h)
                  obtain ⟨f1, f2, f3, f4⟩ := str_facts h3a
                  clear h3 h3a
                  go_wp2
                  go_ret
                  exact ⟨ret_bool e1.out, HBA.out⟩
        · have hkn : k = n := by omega
          have e1 : Hid (rightG g = true) := Lib.hid (by
            unfold rightG
            rw [decide_eq_true_eq, HR.out.len]
            exact ⟨fun h => by have := HR.out.len; rw [h] at this; exact h0 this.symm, by omega, fun j hj => HP.out j (by omega)⟩)
          clear hkn
          go_wp2
          go_ret
          exact ⟨ret_bool e1.out, HB.out⟩

set_option maxRecDepth 100000 in
set_option maxHeartbeats 1000000 in
theorem refOver_any (A : Option Addr) (n c : Nat) (g : Gr) (a k : Nat) (w : World) (B : Nat) (hr : RG w B A n g) (hg : RightG g) (hk : k < n) :
    Calls Tryz.prog 121 #[.slice A n c, .int .i64 a, .int .i64 k] w fun e w' => e = .returned (.bool (overG g a k)) ∧ w = w' := by
  have hl := hr.len
  have hn : n ≤ 256 := by have := hg.few; omega
  have HR := Lib.hid hr
  have HG := Lib.hid hg
  have HL := Lib.hid hl
  obtain ⟨r, hr0⟩ : ∃ r, overG g a k = r := ⟨_, rfl⟩
  have HRES := Lib.hid hr0
  rw [hr0]
  clear hr hg hl hr0
  go_enter Tryz.func121, Tryz.ntmps121
  go_wp2
  go_loop [2] (fun i => ∃ j : Nat, j ≤ k ∧ i = .int .i64 j ∧ overG g a j = r) (fun i => (intOf i).toNat)
  case atStart => exact ⟨k, Nat.le_refl _, rfl, HRES.out⟩
  case round =>
    obtain ⟨j, hj, rfl, ho⟩ := hrel
    have HO := Lib.hid ho
    clear ho
    by_cases haj : a < j
    · have hjn : j < n := by omega
      obtain ⟨b, off, rfl, _, _, hc1, _, _⟩ := HR.out.one hjn
      have hup := HG.out.up j (by omega) (by rw [HL.out]; exact hjn)
      have ho1 := Lib.hid ((over_up HG.out (by rw [HL.out]; exact hjn) haj).symm.trans HO.out)
      obtain ⟨p, hp⟩ : ∃ p, par g j = p := ⟨_, rfl⟩
      have hu : gu g j = (p : Int) := by unfold par at hp; omega
      rw [hu] at hc1
      rw [hp] at ho1 hup
      have hpj := hup.2
      have hajz : (a : Int) < (j : Int) := by omega
      clear hu hp hup
      go_wp2
      go_round
      case rel => exact ⟨p, by omega, rfl, ho1.out⟩
      case measure => simp [intOf]; omega
    · have hres := HO.out
      rw [over_end haj] at hres
      by_cases hja : j = a
      · subst hja
        obtain rfl : r = true := by rw [← hres]; simp
        clear hres HRES HO
        go_wp2
        go_ret
        exact ⟨rfl, rfl⟩
      · obtain rfl : r = false := by rw [← hres]; simpa using hja
        have hne : ((j : Int) == (a : Int)) = false := by simp; omega
        clear hres HRES HO hja
        go_wp2
        go_ret
        exact ⟨rfl, rfl⟩
theorem refOver_b {A : Option Addr} {n c : Nat} {g : Gr} {a k : Nat} {w : World} {B : Nat} {b : Bool} (hr : RG w B A n g) (hg : RightG g) (hk : k < n) (h : overG g a k = b) :
    Calls Tryz.prog 121 #[.slice A n c, .int .i64 a, .int .i64 k] w fun e w' => e = .returned (.bool b) ∧ w = w' := by
  subst h; exact refOver_any A n c g a k w B hr hg hk

end Go.Proofs.YtpoalgkgomljmaaGreatDoor

namespace Go.Proofs.YtpoalgkgomljmaaGreatDoor
open Go.RowKit

theorem refRightG_b {A : Option Addr} {n c : Nat} {g : Gr} {w : World} {b : Bool} (hr : RG w w.heap.size A n g) (hn : n ≤ maxLen) (h : rightG g = b) :
    Calls Tryz.prog 92 #[.slice A n c] w fun e w' => e = .returned (.bool b) ∧ Below w.heap.size w w' := by
  subst h; exact refRightG_any A n c g w hr hn

set_option maxRecDepth 100000 in
set_option maxHeartbeats 2000000 in
theorem refUnderG_any (A : Option Addr) (n c : Nat) (g : Gr) (a : Int) (w : World) (hr : RG w w.heap.size A n g) (hn : n ≤ maxLen) :
    Calls Tryz.prog 93 #[.slice A n c, .int .i64 a] w (IPost (underL g a) w) := by
  have HN := Lib.hid hn
  unfold maxLen at hn
  have HR := Lib.hid hr
  clear hr
  obtain ⟨i0, hi0, hz0, hz1, hz2⟩ := info_parts int_info
  by_cases h0 : a < 0
  · have e0 : underL g a = [] := by unfold underL; rw [if_neg (fun h => by omega)]
    rw [e0]
    go_enter Tryz.func93, Tryz.ntmps93
    go_wp2
    go_ret
    exact ipost_nil (Below.refl _ _)
  · by_cases h1 : (n : Int) ≤ a
    · have e0 : underL g a = [] := by unfold underL; rw [if_neg (fun h => by have := HR.out.len; omega)]
      rw [e0]
      have h0d : decide (a < 0) = false := by simpa using h0
      go_enter Tryz.func93, Tryz.ntmps93
      go_wp2
      go_ret
      exact ipost_nil (Below.refl _ _)
    · cases hg : rightG g with
      | false =>
        have e0 : underL g a = [] := by unfold underL; rw [if_neg (fun h => Bool.noConfusion (hg.symm.trans h.1))]
        rw [e0]
        have HG := Lib.hid hg
        have h0d : decide (a < 0) = false := by simpa using h0
        have h1d : decide ((n : Int) ≤ a) = false := by simpa using h1
        clear hg e0
        go_enter Tryz.func93, Tryz.ntmps93
        go_wp2_with fail
        refine (refRightG_b HR.out HN.out HG.out).mono ?_
        rintro e w1 ⟨rfl, hb⟩
        have HB := Lib.hid hb
        clear hb
        go_wp2
        go_ret
        exact ipost_nil HB.out
      | true =>
        obtain ⟨k0, rfl⟩ : ∃ k0 : Nat, a = (k0 : Int) := ⟨a.toNat, by omega⟩
        have hk0 : k0 < n := by omega
        have HGR := Lib.hid (rightG_is hg)
        have hn256 : n ≤ 256 := by have := HGR.out.few; have := HR.out.len; omega
        have HG := Lib.hid hg
        have h0d : decide ((k0 : Int) < 0) = false := by simp
        have h1d : decide (n ≤ k0) = false := by simp; omega
        clear h0 h1 hg
        have e0 : underL g (k0 : Int) = numsF (overG g k0) n := by unfold underL; rw [if_pos ⟨HG.out, by omega, by have := HR.out.len; omega⟩, Int.toNat_natCast, HR.out.len]
        rw [e0]
        clear e0
        go_enter Tryz.func93, Tryz.ntmps93
        go_wp2_with fail
        refine (refRightG_b HR.out HN.out HG.out).mono ?_
        rintro e w1 ⟨rfl, hb⟩
        have HB := Lib.hid hb
        have HR1 := Lib.hid (HR.out.next hb)
        clear hb
        go_wp2
        go_loopw [5, 6] (fun v i wr => ∃ k : Nat, k ≤ n ∧ i = .int .i64 k ∧ ON EI 1 3 w1 v (numsF (overG g k0) k) wr) (fun _ i _ => n - (intOf i).toNat)
        case atStart => exact ⟨0, Nat.zero_le _, rfl, ON.nil _⟩
        case round =>
          obtain ⟨k, hk, rfl, hf⟩ := hrel
          have HFk := Lib.hid hf
          clear hf
          by_cases hlt : k < n
          · have hlen : Hid ((numsF (overG g k0) k).length ≤ 1000) := Lib.hid (by have := numsF_len (overG g k0) k; omega)
            have HRk := Lib.hid (HR1.out.next HFk.out.below)
            cases ho : overG g k0 k with
            | true =>
              have HS := Lib.hid (numsF_yes ho)
              have HO := Lib.hid ho
              clear ho
              go_wp2_with fail
              refine (refOver_b HRk.out HGR.out hlt HO.out).mono ?_
              rintro e w3 ⟨rfl, rfl⟩
              go_wp2_with (at_builtin; refine wpList_append_EI rfl (.tmp 30) (.tmp 32) 23 3 rfl HFk.out i0 Tryz.underlying23 hi0 hz0 hz1 hz2 rfl _ rfl hlen.out ?_; intro v' w4 hON4; refine Hid.out ?_)
              refine Lib.hid ?_
              have HO4 := Lib.hid hON4
              clear hON4
              go_wp2
              go_roundw
              case rel => exact ⟨k + 1, by omega, by go_num, by rw [HS.out]; exact HO4.out⟩
              case measure => simp [intOf]; omega
            | false =>
              have HS := Lib.hid (numsF_no ho)
              have HO := Lib.hid ho
              clear ho
              go_wp2_with fail
              refine (refOver_b HRk.out HGR.out hlt HO.out).mono ?_
              rintro e w3 ⟨rfl, rfl⟩
              go_wp2
              go_roundw
              case rel => exact ⟨k + 1, by omega, by go_num, by rw [HS.out]; exact HFk.out⟩
              case measure => simp [intOf]; omega
          · have hkn : k = n := by omega
            subst hkn
            go_wp2
            go_ret
            exact HFk.out.ipost.trans HB.out



end Go.Proofs.YtpoalgkgomljmaaGreatDoor

namespace Go.Proofs.YtpoalgkgomljmaaGreatDoor
open Go.RowKit
attribute [local go_sem] alloc_drewN setCell_drewN

theorem bcell {B : Nat} {W w1 : World} (hb : Below B W w1) : (∀ b o, b < B → w1.cell? ⟨b, o, none⟩ = W.cell? ⟨b, o, none⟩) ∧ (∀ b o, b < B → w1.frozen? ⟨b, o, none⟩ = W.frozen? ⟨b, o, none⟩) :=
  ⟨fun b o h => hb.cell (p := ⟨b, o, none⟩) h, fun b o h => hb.frozen (p := ⟨b, o, none⟩) h⟩

set_option maxHeartbeats 1000000 in
theorem both_yes (A A' : Option Addr) (n c n' c' : Nat) (xs ys : List Int) (w : World) (hr : RI w w.heap.size A n xs) (hr' : RI w w.heap.size A' n' ys) (hn : n ≤ maxLen) (hn' : n' ≤ maxLen) (hx : rightB xs = true) (hy : rightB ys = true) :
    Calls Tryz.prog 42 #[.slice A n c, .slice A' n' c'] w fun e w' =>
      (∃ a0 a1 a2 a3 b0 b1 b2 b3 : Nat, Four (inB xs) a0 a1 a2 a3 ∧ Four (inB ys) b0 b1 b2 b3 ∧ e = .returned (.tuple #[.agg #[.int .u64 a0, .int .u64 a1, .int .u64 a2, .int .u64 a3], .agg #[.int .u64 b0, .int .u64 b1, .int .u64 b2, .int .u64 b3], .bool true])) ∧ Below w.heap.size w w' := by
  have HX := Lib.hid hx
  have HY := Lib.hid hy
  clear hx hy
  go_enter Tryz.func42, Tryz.ntmps42
  go_wp2_with fail
  have hb0 : Below w.heap.size w ((w.alloc (.cells #[.int .u64 0, .int .u64 0, .int .u64 0, .int .u64 0] 70)).alloc (.cells #[.int .u64 0, .int .u64 0, .int .u64 0, .int .u64 0] 70)) := by go_grown
  refine (pack_any _ _ _ xs _ ((hr.below hb0).more hb0.size) hn).mono ?_
  rintro e w1 ⟨⟨a0, a1, a2, a3, ha, rfl⟩, hb1⟩
  have HA := Lib.hid ha
  clear ha
  rw [HX.out]
  obtain ⟨hc1, hf1⟩ := bcell hb1
  have hz1 : w.heap.size + 1 + 1 ≤ w1.heap.size := by have := hb1.size; simp at this; omega
  have hz2 : w.heap.size + 1 < w1.heap.size := by omega
  have hz2' : w.heap.size < w1.heap.size := by omega
  simp only [World.size_alloc] at hc1 hf1
  go_wp2_with fail
  have hb2 : Below w.heap.size w (w1.alloc (.cells #[.int .u64 a0, .int .u64 a1, .int .u64 a2, .int .u64 a3] 70)) := (hb0.trans (hb1.mono (by simp; omega))).alloc (by omega) _
  refine (pack_any _ _ _ ys _ ((hr'.below hb2).more hb2.size) hn').mono ?_
  rintro e w2 ⟨⟨b0, b1, b2, b3, hb, rfl⟩, hb3⟩
  have HB := Lib.hid hb
  clear hb
  rw [HY.out]
  obtain ⟨hc3, hf3⟩ := bcell hb3
  have hz3 : w1.heap.size + 1 ≤ w2.heap.size := by have := hb3.size; simp at this; omega
  simp only [World.size_alloc] at hc3 hf3
  have hz4 : w1.heap.size < w2.heap.size := by omega
  have hz5 : w.heap.size + 1 < w2.heap.size := by omega
  have hz6 : w.heap.size < w2.heap.size := by omega
  have hz7 : w.heap.size < w1.heap.size + 1 := by omega
  have hz8 : w.heap.size + 1 < w1.heap.size + 1 := by omega
  have hb4 : Below w.heap.size w (w2.alloc (.cells #[.int .u64 b0, .int .u64 b1, .int .u64 b2, .int .u64 b3] 70)) := (hb2.trans (hb3.mono (by simp; omega))).alloc (by omega) _
  have cx0 : (w2.alloc (.cells #[.int .u64 b0, .int .u64 b1, .int .u64 b2, .int .u64 b3] 70)).cell? ⟨w1.heap.size, 0, none⟩ = some (.int .u64 a0) := by go_simp
  have cx1 : (w2.alloc (.cells #[.int .u64 b0, .int .u64 b1, .int .u64 b2, .int .u64 b3] 70)).cell? ⟨w1.heap.size, 1, none⟩ = some (.int .u64 a1) := by go_simp
  have cx2 : (w2.alloc (.cells #[.int .u64 b0, .int .u64 b1, .int .u64 b2, .int .u64 b3] 70)).cell? ⟨w1.heap.size, 2, none⟩ = some (.int .u64 a2) := by go_simp
  have cx3 : (w2.alloc (.cells #[.int .u64 b0, .int .u64 b1, .int .u64 b2, .int .u64 b3] 70)).cell? ⟨w1.heap.size, 3, none⟩ = some (.int .u64 a3) := by go_simp
  have cy0 : (w2.alloc (.cells #[.int .u64 b0, .int .u64 b1, .int .u64 b2, .int .u64 b3] 70)).cell? ⟨w2.heap.size, 0, none⟩ = some (.int .u64 b0) := by go_simp
  have cy1 : (w2.alloc (.cells #[.int .u64 b0, .int .u64 b1, .int .u64 b2, .int .u64 b3] 70)).cell? ⟨w2.heap.size, 1, none⟩ = some (.int .u64 b1) := by go_simp
  have cy2 : (w2.alloc (.cells #[.int .u64 b0, .int .u64 b1, .int .u64 b2, .int .u64 b3] 70)).cell? ⟨w2.heap.size, 2, none⟩ = some (.int .u64 b2) := by go_simp
  have cy3 : (w2.alloc (.cells #[.int .u64 b0, .int .u64 b1, .int .u64 b2, .int .u64 b3] 70)).cell? ⟨w2.heap.size, 3, none⟩ = some (.int .u64 b3) := by go_simp
  have cr0 : (w2.alloc (.cells #[.int .u64 b0, .int .u64 b1, .int .u64 b2, .int .u64 b3] 70)).cell? ⟨w.heap.size, 0, none⟩ = some (.int .u64 0) := by go_simp
  have fr0 : (w2.alloc (.cells #[.int .u64 b0, .int .u64 b1, .int .u64 b2, .int .u64 b3] 70)).frozen? ⟨w.heap.size, 0, none⟩ = false := by go_simp
  have cr1 : (w2.alloc (.cells #[.int .u64 b0, .int .u64 b1, .int .u64 b2, .int .u64 b3] 70)).cell? ⟨w.heap.size, 1, none⟩ = some (.int .u64 0) := by go_simp
  have fr1 : (w2.alloc (.cells #[.int .u64 b0, .int .u64 b1, .int .u64 b2, .int .u64 b3] 70)).frozen? ⟨w.heap.size, 1, none⟩ = false := by go_simp
  have cr2 : (w2.alloc (.cells #[.int .u64 b0, .int .u64 b1, .int .u64 b2, .int .u64 b3] 70)).cell? ⟨w.heap.size, 2, none⟩ = some (.int .u64 0) := by go_simp
  have fr2 : (w2.alloc (.cells #[.int .u64 b0, .int .u64 b1, .int .u64 b2, .int .u64 b3] 70)).frozen? ⟨w.heap.size, 2, none⟩ = false := by go_simp
  have cr3 : (w2.alloc (.cells #[.int .u64 b0, .int .u64 b1, .int .u64 b2, .int .u64 b3] 70)).cell? ⟨w.heap.size, 3, none⟩ = some (.int .u64 0) := by go_simp
  have fr3 : (w2.alloc (.cells #[.int .u64 b0, .int .u64 b1, .int .u64 b2, .int .u64 b3] 70)).frozen? ⟨w.heap.size, 3, none⟩ = false := by go_simp
  have cs0 : (w2.alloc (.cells #[.int .u64 b0, .int .u64 b1, .int .u64 b2, .int .u64 b3] 70)).cell? ⟨w.heap.size + 1, 0, none⟩ = some (.int .u64 0) := by go_simp
  have fs0 : (w2.alloc (.cells #[.int .u64 b0, .int .u64 b1, .int .u64 b2, .int .u64 b3] 70)).frozen? ⟨w.heap.size + 1, 0, none⟩ = false := by go_simp
  have cs1 : (w2.alloc (.cells #[.int .u64 b0, .int .u64 b1, .int .u64 b2, .int .u64 b3] 70)).cell? ⟨w.heap.size + 1, 1, none⟩ = some (.int .u64 0) := by go_simp
  have fs1 : (w2.alloc (.cells #[.int .u64 b0, .int .u64 b1, .int .u64 b2, .int .u64 b3] 70)).frozen? ⟨w.heap.size + 1, 1, none⟩ = false := by go_simp
  have cs2 : (w2.alloc (.cells #[.int .u64 b0, .int .u64 b1, .int .u64 b2, .int .u64 b3] 70)).cell? ⟨w.heap.size + 1, 2, none⟩ = some (.int .u64 0) := by go_simp
  have fs2 : (w2.alloc (.cells #[.int .u64 b0, .int .u64 b1, .int .u64 b2, .int .u64 b3] 70)).frozen? ⟨w.heap.size + 1, 2, none⟩ = false := by go_simp
  have cs3 : (w2.alloc (.cells #[.int .u64 b0, .int .u64 b1, .int .u64 b2, .int .u64 b3] 70)).cell? ⟨w.heap.size + 1, 3, none⟩ = some (.int .u64 0) := by go_simp
  have fs3 : (w2.alloc (.cells #[.int .u64 b0, .int .u64 b1, .int .u64 b2, .int .u64 b3] 70)).frozen? ⟨w.heap.size + 1, 3, none⟩ = false := by go_simp
  have hsz : w.heap.size + 1 < (w2.alloc (.cells #[.int .u64 b0, .int .u64 b1, .int .u64 b2, .int .u64 b3] 70)).heap.size := by simp; omega
  clear hr hr' hb0 hb1 hb2 hb3 hz1 hz3
  go_wp2
  clear hc1 hf1 hc3 hf3
  generalize (w2.alloc (.cells #[.int .u64 b0, .int .u64 b1, .int .u64 b2, .int .u64 b3] 70)) = W at *
  generalize hB : w.heap.size = B at *
  have HBB := Lib.hid hB
  clear hB
  generalize w1.heap.size = p at *
  generalize w2.heap.size = q at *
  go_region
  all_goals go_wp2
  all_goals
    refine bodyPost_ret (v := .tuple #[.agg #[.int .u64 a0, .int .u64 a1, .int .u64 a2, .int .u64 a3], .agg #[.int .u64 b0, .int .u64 b1, .int .u64 b2, .int .u64 b3], .bool true]) (by simp [results, Tryz.results42, go_sem, *]) rfl ⟨⟨a0, a1, a2, a3, b0, b1, b2, b3, HA.out HX.out, HB.out HY.out, rfl⟩, ?_⟩
    rw [HBB.out]
    go_grown

set_option maxHeartbeats 1000000 in
theorem both_no (A A' : Option Addr) (n c n' c' : Nat) (xs ys : List Int) (w : World) (hr : RI w w.heap.size A n xs) (hr' : RI w w.heap.size A' n' ys) (hn : n ≤ maxLen) (hn' : n' ≤ maxLen) (hxy : (rightB xs && rightB ys) = false) :
    Calls Tryz.prog 42 #[.slice A n c, .slice A' n' c'] w fun e w' =>
      e = .returned (.tuple #[.agg #[.int .u64 0, .int .u64 0, .int .u64 0, .int .u64 0], .agg #[.int .u64 0, .int .u64 0, .int .u64 0, .int .u64 0], .bool false]) ∧ Below w.heap.size w w' := by
  have HXY := Lib.hid hxy
  clear hxy
  obtain ⟨X, hX⟩ : ∃ X, rightB xs = X := ⟨_, rfl⟩
  obtain ⟨Y, hY⟩ : ∃ Y, rightB ys = Y := ⟨_, rfl⟩
  have HX := Lib.hid hX
  have HY := Lib.hid hY
  have HZ : Hid ((X && Y) = false) := Lib.hid (by rw [← hX, ← hY]; exact HXY.out)
  clear hX hY
  go_enter Tryz.func42, Tryz.ntmps42
  go_wp2_with fail
  have hb0 : Below w.heap.size w ((w.alloc (.cells #[.int .u64 0, .int .u64 0, .int .u64 0, .int .u64 0] 70)).alloc (.cells #[.int .u64 0, .int .u64 0, .int .u64 0, .int .u64 0] 70)) := by go_grown
  refine (pack_any _ _ _ xs _ ((hr.below hb0).more hb0.size) hn).mono ?_
  rintro e w1 ⟨⟨a0, a1, a2, a3, ha, rfl⟩, hb1⟩
  have HA := Lib.hid ha
  clear ha
  rw [HX.out]
  obtain ⟨hc1, hf1⟩ := bcell hb1
  have hz1 : w.heap.size + 1 + 1 ≤ w1.heap.size := by have := hb1.size; simp at this; omega
  have hz2 : w.heap.size + 1 < w1.heap.size := by omega
  have hz2' : w.heap.size < w1.heap.size := by omega
  simp only [World.size_alloc] at hc1 hf1
  go_wp2_with fail
  have hb2 : Below w.heap.size w (w1.alloc (.cells #[.int .u64 a0, .int .u64 a1, .int .u64 a2, .int .u64 a3] 70)) := (hb0.trans (hb1.mono (by simp; omega))).alloc (by omega) _
  refine (pack_any _ _ _ ys _ ((hr'.below hb2).more hb2.size) hn').mono ?_
  rintro e w2 ⟨⟨b0, b1, b2, b3, hb, rfl⟩, hb3⟩
  have HB := Lib.hid hb
  clear hb
  rw [HY.out]
  obtain ⟨hc3, hf3⟩ := bcell hb3
  have hz3 : w1.heap.size + 1 ≤ w2.heap.size := by have := hb3.size; simp at this; omega
  simp only [World.size_alloc] at hc3 hf3
  have hz4 : w1.heap.size < w2.heap.size := by omega
  have hz5 : w.heap.size + 1 < w2.heap.size := by omega
  have hz6 : w.heap.size < w2.heap.size := by omega
  have hz7 : w.heap.size < w1.heap.size + 1 := by omega
  have hz8 : w.heap.size + 1 < w1.heap.size + 1 := by omega
  have hb4 : Below w.heap.size w (w2.alloc (.cells #[.int .u64 b0, .int .u64 b1, .int .u64 b2, .int .u64 b3] 70)) := (hb2.trans (hb3.mono (by simp; omega))).alloc (by omega) _
  have cx0 : (w2.alloc (.cells #[.int .u64 b0, .int .u64 b1, .int .u64 b2, .int .u64 b3] 70)).cell? ⟨w1.heap.size, 0, none⟩ = some (.int .u64 a0) := by go_simp
  have cx1 : (w2.alloc (.cells #[.int .u64 b0, .int .u64 b1, .int .u64 b2, .int .u64 b3] 70)).cell? ⟨w1.heap.size, 1, none⟩ = some (.int .u64 a1) := by go_simp
  have cx2 : (w2.alloc (.cells #[.int .u64 b0, .int .u64 b1, .int .u64 b2, .int .u64 b3] 70)).cell? ⟨w1.heap.size, 2, none⟩ = some (.int .u64 a2) := by go_simp
  have cx3 : (w2.alloc (.cells #[.int .u64 b0, .int .u64 b1, .int .u64 b2, .int .u64 b3] 70)).cell? ⟨w1.heap.size, 3, none⟩ = some (.int .u64 a3) := by go_simp
  have cy0 : (w2.alloc (.cells #[.int .u64 b0, .int .u64 b1, .int .u64 b2, .int .u64 b3] 70)).cell? ⟨w2.heap.size, 0, none⟩ = some (.int .u64 b0) := by go_simp
  have cy1 : (w2.alloc (.cells #[.int .u64 b0, .int .u64 b1, .int .u64 b2, .int .u64 b3] 70)).cell? ⟨w2.heap.size, 1, none⟩ = some (.int .u64 b1) := by go_simp
  have cy2 : (w2.alloc (.cells #[.int .u64 b0, .int .u64 b1, .int .u64 b2, .int .u64 b3] 70)).cell? ⟨w2.heap.size, 2, none⟩ = some (.int .u64 b2) := by go_simp
  have cy3 : (w2.alloc (.cells #[.int .u64 b0, .int .u64 b1, .int .u64 b2, .int .u64 b3] 70)).cell? ⟨w2.heap.size, 3, none⟩ = some (.int .u64 b3) := by go_simp
  have cr0 : (w2.alloc (.cells #[.int .u64 b0, .int .u64 b1, .int .u64 b2, .int .u64 b3] 70)).cell? ⟨w.heap.size, 0, none⟩ = some (.int .u64 0) := by go_simp
  have fr0 : (w2.alloc (.cells #[.int .u64 b0, .int .u64 b1, .int .u64 b2, .int .u64 b3] 70)).frozen? ⟨w.heap.size, 0, none⟩ = false := by go_simp
  have cr1 : (w2.alloc (.cells #[.int .u64 b0, .int .u64 b1, .int .u64 b2, .int .u64 b3] 70)).cell? ⟨w.heap.size, 1, none⟩ = some (.int .u64 0) := by go_simp
  have fr1 : (w2.alloc (.cells #[.int .u64 b0, .int .u64 b1, .int .u64 b2, .int .u64 b3] 70)).frozen? ⟨w.heap.size, 1, none⟩ = false := by go_simp
  have cr2 : (w2.alloc (.cells #[.int .u64 b0, .int .u64 b1, .int .u64 b2, .int .u64 b3] 70)).cell? ⟨w.heap.size, 2, none⟩ = some (.int .u64 0) := by go_simp
  have fr2 : (w2.alloc (.cells #[.int .u64 b0, .int .u64 b1, .int .u64 b2, .int .u64 b3] 70)).frozen? ⟨w.heap.size, 2, none⟩ = false := by go_simp
  have cr3 : (w2.alloc (.cells #[.int .u64 b0, .int .u64 b1, .int .u64 b2, .int .u64 b3] 70)).cell? ⟨w.heap.size, 3, none⟩ = some (.int .u64 0) := by go_simp
  have fr3 : (w2.alloc (.cells #[.int .u64 b0, .int .u64 b1, .int .u64 b2, .int .u64 b3] 70)).frozen? ⟨w.heap.size, 3, none⟩ = false := by go_simp
  have cs0 : (w2.alloc (.cells #[.int .u64 b0, .int .u64 b1, .int .u64 b2, .int .u64 b3] 70)).cell? ⟨w.heap.size + 1, 0, none⟩ = some (.int .u64 0) := by go_simp
  have fs0 : (w2.alloc (.cells #[.int .u64 b0, .int .u64 b1, .int .u64 b2, .int .u64 b3] 70)).frozen? ⟨w.heap.size + 1, 0, none⟩ = false := by go_simp
  have cs1 : (w2.alloc (.cells #[.int .u64 b0, .int .u64 b1, .int .u64 b2, .int .u64 b3] 70)).cell? ⟨w.heap.size + 1, 1, none⟩ = some (.int .u64 0) := by go_simp
  have fs1 : (w2.alloc (.cells #[.int .u64 b0, .int .u64 b1, .int .u64 b2, .int .u64 b3] 70)).frozen? ⟨w.heap.size + 1, 1, none⟩ = false := by go_simp
  have cs2 : (w2.alloc (.cells #[.int .u64 b0, .int .u64 b1, .int .u64 b2, .int .u64 b3] 70)).cell? ⟨w.heap.size + 1, 2, none⟩ = some (.int .u64 0) := by go_simp
  have fs2 : (w2.alloc (.cells #[.int .u64 b0, .int .u64 b1, .int .u64 b2, .int .u64 b3] 70)).frozen? ⟨w.heap.size + 1, 2, none⟩ = false := by go_simp
  have cs3 : (w2.alloc (.cells #[.int .u64 b0, .int .u64 b1, .int .u64 b2, .int .u64 b3] 70)).cell? ⟨w.heap.size + 1, 3, none⟩ = some (.int .u64 0) := by go_simp
  have fs3 : (w2.alloc (.cells #[.int .u64 b0, .int .u64 b1, .int .u64 b2, .int .u64 b3] 70)).frozen? ⟨w.heap.size + 1, 3, none⟩ = false := by go_simp
  have hsz : w.heap.size + 1 < (w2.alloc (.cells #[.int .u64 b0, .int .u64 b1, .int .u64 b2, .int .u64 b3] 70)).heap.size := by simp; omega
  clear hr hr' hb0 hb1 hb2 hb3 hz1 hz3
  cases X with
  | false =>
    go_upto_region 4 with (fail)
    clear hc1 hf1 hc3 hf3
    generalize (w2.alloc (.cells #[.int .u64 b0, .int .u64 b1, .int .u64 b2, .int .u64 b3] 70)) = W at *
    generalize hB : w.heap.size = B at *
    have HBB := Lib.hid hB
    clear hB
    generalize w1.heap.size = p at *
    generalize w2.heap.size = q at *
    go_wp2
    refine bodyPost_ret (v := .tuple #[.agg #[.int .u64 0, .int .u64 0, .int .u64 0, .int .u64 0], .agg #[.int .u64 0, .int .u64 0, .int .u64 0, .int .u64 0], .bool false]) (by simp [results, Tryz.results42, go_sem, *]) rfl ⟨rfl, ?_⟩
    rw [HBB.out]
    go_grown
  | true =>
    have hY : Y = false := by simpa using HZ.out
    subst hY
    go_upto_region 4 with (fail)
    clear hc1 hf1 hc3 hf3
    generalize (w2.alloc (.cells #[.int .u64 b0, .int .u64 b1, .int .u64 b2, .int .u64 b3] 70)) = W at *
    generalize hB : w.heap.size = B at *
    have HBB := Lib.hid hB
    clear hB
    generalize w1.heap.size = p at *
    generalize w2.heap.size = q at *
    go_wp2
    refine bodyPost_ret (v := .tuple #[.agg #[.int .u64 0, .int .u64 0, .int .u64 0, .int .u64 0], .agg #[.int .u64 0, .int .u64 0, .int .u64 0, .int .u64 0], .bool false]) (by simp [results, Tryz.results42, go_sem, *]) rfl ⟨rfl, ?_⟩
    rw [HBB.out]
    go_grown

end Go.Proofs.YtpoalgkgomljmaaGreatDoor

namespace Go.Proofs.YtpoalgkgomljmaaGreatDoor
open Go.RowKit
open Go.Shelf
attribute [local go_sem] alloc_drewN setCell_drewN

/-- 'a slice that holds these numbers, in new memory', kept from the walk -/
def Gives (l : List Int) (w : World) (e : Ending) (w' : World) : Prop :=
  (∃ A c, l.length ≤ c ∧ e = .returned (.slice A l.length c) ∧ RI w' w'.heap.size A l.length l) ∧ Below w.heap.size w w'
theorem gives_of_own {l : List Int} {w w' : World} {B : Nat} {v : Value} (h : w'.ownsRow B 3 1 v l.length (l.map (Value.int .i64))) (hb : Below w.heap.size w w') : Gives l w (.returned v) w' := by
  rcases h.2 with ⟨hv, h0⟩ | ⟨g, cap, cur, hv, _, _, hcap, _⟩
  · subst hv
    have hl : l = [] := List.eq_nil_of_length_eq_zero h0
    subst hl
    exact ⟨⟨none, 0, Nat.le_refl _, rfl, RI.nil⟩, hb⟩
  · subst hv
    exact ⟨⟨_, _, hcap, rfl, RI.of_own h⟩, hb⟩

theorem IPost.gives {l : List Int} {w w' : World} {e : Ending} (h : IPost l w e w') : Gives l w e w' := by
  obtain ⟨⟨A, c, h1, h2, _, h4⟩, hb⟩ := h
  exact ⟨⟨A, c, h4, h1, h2⟩, hb⟩
theorem four_or {p q : Int → Bool} {a0 a1 a2 a3 b0 b1 b2 b3 : Nat} (h : Four p a0 a1 a2 a3) (k : Four q b0 b1 b2 b3) : Four (fun n => p n || q n) (a0 ||| b0) (a1 ||| b1) (a2 ||| b2) (a3 ||| b3) := by
  obtain ⟨rfl, rfl, rfl, rfl⟩ := h
  obtain ⟨rfl, rfl, rfl, rfl⟩ := k
  exact ⟨wordOf_or _ _ _, wordOf_or _ _ _, wordOf_or _ _ _, wordOf_or _ _ _⟩
theorem four_and {p q : Int → Bool} {a0 a1 a2 a3 b0 b1 b2 b3 : Nat} (h : Four p a0 a1 a2 a3) (k : Four q b0 b1 b2 b3) : Four (fun n => p n && q n) (a0 &&& b0) (a1 &&& b1) (a2 &&& b2) (a3 &&& b3) := by
  obtain ⟨rfl, rfl, rfl, rfl⟩ := h
  obtain ⟨rfl, rfl, rfl, rfl⟩ := k
  exact ⟨wordOf_and _ _ _, wordOf_and _ _ _, wordOf_and _ _ _, wordOf_and _ _ _⟩
theorem four_less {p q : Int → Bool} {a0 a1 a2 a3 b0 b1 b2 b3 : Nat} (h : Four p a0 a1 a2 a3) (k : Four q b0 b1 b2 b3) : Four (fun n => p n && !q n) (a0 &&& neg64 b0) (a1 &&& neg64 b1) (a2 &&& neg64 b2) (a3 &&& neg64 b3) := by
  obtain ⟨rfl, rfl, rfl, rfl⟩ := h
  obtain ⟨rfl, rfl, rfl, rfl⟩ := k
  exact ⟨wordOf_andNot _ _ _, wordOf_andNot _ _ _, wordOf_andNot _ _ _, wordOf_andNot _ _ _⟩

theorem joinL_pick {xs ys : List Int} (hx : rightB xs = true) (hy : rightB ys = true) : pickL (fun n => inB xs n || inB ys n) = joinL xs ys := by
  unfold joinL whichL
  rw [hx, hy]
  rfl


theorem meetL_pick {xs ys : List Int} (hx : rightB xs = true) (hy : rightB ys = true) : pickL (fun n => inB xs n && inB ys n) = meetL xs ys := by
  unfold meetL whichL
  rw [hx, hy]
  rfl


theorem lessL_pick {xs ys : List Int} (hx : rightB xs = true) (hy : rightB ys = true) : pickL (fun n => inB xs n && !inB ys n) = lessL xs ys := by
  unfold lessL whichL
  rw [hx, hy]
  rfl

set_option maxHeartbeats 1000000 in
theorem less_post (A A' : Option Addr) (n c n' c' : Nat) (xs ys : List Int) (w : World) (hr : RI w w.heap.size A n xs) (hr' : RI w w.heap.size A' n' ys) (hn : n ≤ maxLen) (hn' : n' ≤ maxLen)
    (hT : TabAt 0 Lib.deBruijn64tab w) (hB : 0 < w.heap.size) :
    Calls Tryz.prog 56 #[.slice A n c, .slice A' n' c'] w (IPost (lessL xs ys) w) := by
  have HT := Lib.hid hT
  clear hT
  by_cases hxy : (rightB xs && rightB ys) = true
  · have hx : Hid (rightB xs = true) := Lib.hid (by simp at hxy; exact hxy.1)
    have hy : Hid (rightB ys = true) := Lib.hid (by simp at hxy; exact hxy.2)
    clear hxy
    go_enter Tryz.func56, Tryz.ntmps56
    go_wp2_with fail
    refine (both_yes _ _ _ _ _ _ xs ys _ hr hr' hn hn' hx.out hy.out).mono ?_
    rintro e w1 ⟨⟨a0, a1, a2, a3, b0, b1, b2, b3, ha, hb, rfl⟩, hb1⟩
    have HA := Lib.hid ha
    have HBB := Lib.hid hb
    obtain ⟨ua0, ua1, ua2, ua3⟩ := four_lt ha
    obtain ⟨ub0, ub1, ub2, ub3⟩ := four_lt hb
    clear ha hb hr hr'
    have hz := hb1.size
    go_wp2_with fail
    refine (wless_any a0 a1 a2 a3 b0 b1 b2 b3 _ ua0 ua1 ua2 ua3 ub0 ub1 ub2 ub3).mono ?_
    rintro e w2 ⟨rfl, hb2⟩
    have hb3 : Below w.heap.size w w2 := ((hb1.alloc (by omega) _).alloc (by simp; omega) _).trans (hb2.mono (by simp; omega))
    have hz3 := hb3.size
    go_wp2_with fail
    refine (list_any _ _ _ _ _ (four_less HA.out HBB.out) _ (tab_below HT.out hb3 hB) (by omega)).mono ?_
    rintro e w3 ⟨⟨v, rfl, hown⟩, hb4⟩
    have HO := Lib.hid hown
    clear hown
    go_wp2
    go_ret
    have h := HO.out
    rw [lessL_pick hx.out hy.out] at h
    exact ipost_own h (hb3.trans (hb4.mono hz3))
  · have hno : (rightB xs && rightB ys) = false := by simpa using hxy
    have HL : Hid (lessL xs ys = []) := Lib.hid (whichL_wrong hno)
    have HN := Lib.hid hno
    clear hxy hno
    go_enter Tryz.func56, Tryz.ntmps56
    go_wp2_with fail
    refine (both_no _ _ _ _ _ _ xs ys _ hr hr' hn hn' HN.out).mono ?_
    rintro e w1 ⟨rfl, hb1⟩
    have hz := hb1.size
    clear hr hr'
    go_wp2
    go_ret
    rw [HL.out]
    exact ipost_nil ((hb1.alloc (by omega) _).alloc (by simp; omega) _)

theorem less_ops (A A' : Option Addr) (n c n' c' : Nat) (xs ys : List Int) (w : World) (hr : RI w w.heap.size A n xs) (hr' : RI w w.heap.size A' n' ys) (hn : n ≤ maxLen) (hn' : n' ≤ maxLen)
    (hT : TabAt 0 Lib.deBruijn64tab w) (hB : 0 < w.heap.size) :
    Calls Tryz.prog 56 #[.slice A n c, .slice A' n' c'] w (Gives (lessL xs ys) w) := (less_post A A' n c n' c' xs ys w hr hr' hn hn' hT hB).mono fun _ _ h => h.gives

end Go.Proofs.YtpoalgkgomljmaaGreatDoor

namespace Go.Proofs.YtpoalgkgomljmaaGreatDoor
open Go.RowKit
open Go.Shelf
attribute [local go_sem] alloc_drewN setCell_drewN

theorem four_zero {p : Int → Bool} {a0 a1 a2 a3 : Nat} (h : Four p a0 a1 a2 a3) : decide (a0 = 0 ∧ a1 = 0 ∧ a2 = 0 ∧ a3 = 0) = true ↔ ∀ n : Int, 0 ≤ n → n ≤ 255 → p n = false := by
  obtain ⟨rfl, rfl, rfl, rfl⟩ := h
  rw [decide_eq_true_eq]
  constructor
  · rintro ⟨h0, h1, h2, h3⟩ n g0 g1
    have hk : n / 64 = 0 ∨ n / 64 = 1 ∨ n / 64 = 2 ∨ n / 64 = 3 := by omega
    rcases hk with hk | hk | hk | hk
    · have := bitsTo_zero.1 h0 (n - 0).toNat (by omega)
      have e : ((64 * 0 + (n - 0).toNat : Nat) : Int) = n := by omega
      rwa [e] at this
    · have := bitsTo_zero.1 h1 (n - 64).toNat (by omega)
      have e : ((64 * 1 + (n - 64).toNat : Nat) : Int) = n := by omega
      rwa [e] at this
    · have := bitsTo_zero.1 h2 (n - 128).toNat (by omega)
      have e : ((64 * 2 + (n - 128).toNat : Nat) : Int) = n := by omega
      rwa [e] at this
    · have := bitsTo_zero.1 h3 (n - 192).toNat (by omega)
      have e : ((64 * 3 + (n - 192).toNat : Nat) : Int) = n := by omega
      rwa [e] at this
  · intro h
    exact ⟨bitsTo_zero.2 fun j hj => h _ (by omega) (by omega), bitsTo_zero.2 fun j hj => h _ (by omega) (by omega), bitsTo_zero.2 fun j hj => h _ (by omega) (by omega), bitsTo_zero.2 fun j hj => h _ (by omega) (by omega)⟩
theorem part_four {xs ys : List Int} (hx : rightB xs = true) (hy : rightB ys = true) {a0 a1 a2 a3 : Nat} (h : Four (fun n => inB xs n && !inB ys n) a0 a1 a2 a3) : decide (a0 = 0 ∧ a1 = 0 ∧ a2 = 0 ∧ a3 = 0) = partB xs ys := by
  rw [Bool.eq_iff_iff, four_zero h]
  unfold partB
  rw [hx, hy]
  simp only [Bool.and_self, Bool.true_and, List.all_eq_true]
  constructor
  · intro h n hn
    have := right_mem hx n hn
    have h2 := h n this.1 this.2
    have h3 : inB xs n = true := List.contains_iff_mem.2 hn
    rw [h3] at h2
    simpa [inB] using h2
  · intro h n _ _
    cases h3 : inB xs n with
    | false => rfl
    | true => have := h n (List.contains_iff_mem.1 h3); simpa [inB] using this
theorem apart_four {xs ys : List Int} (hx : rightB xs = true) (hy : rightB ys = true) {a0 a1 a2 a3 : Nat} (h : Four (fun n => inB xs n && inB ys n) a0 a1 a2 a3) : decide (a0 = 0 ∧ a1 = 0 ∧ a2 = 0 ∧ a3 = 0) = apartB xs ys := by
  rw [Bool.eq_iff_iff, four_zero h]
  unfold apartB
  rw [hx, hy]
  simp only [Bool.and_self, Bool.true_and, List.all_eq_true]
  constructor
  · intro h n hn
    have := right_mem hx n hn
    have h2 := h n this.1 this.2
    have h3 : inB xs n = true := List.contains_iff_mem.2 hn
    rw [h3] at h2
    simpa [inB] using h2
  · intro h n _ _
    cases h3 : inB xs n with
    | false => rfl
    | true => have := h n (List.contains_iff_mem.1 h3); simpa [inB] using this

set_option maxHeartbeats 1000000 in
theorem part_any (A A' : Option Addr) (n c n' c' : Nat) (xs ys : List Int) (w : World) (hr : RI w w.heap.size A n xs) (hr' : RI w w.heap.size A' n' ys) (hn : n ≤ maxLen) (hn' : n' ≤ maxLen) :
    Calls Tryz.prog 20 #[.slice A n c, .slice A' n' c'] w fun e w' => e = .returned (.bool (partB xs ys)) ∧ Below w.heap.size w w' := by
  by_cases hxy : (rightB xs && rightB ys) = true
  · have hx : Hid (rightB xs = true) := Lib.hid (by simp at hxy; exact hxy.1)
    have hy : Hid (rightB ys = true) := Lib.hid (by simp at hxy; exact hxy.2)
    clear hxy
    go_enter Tryz.func20, Tryz.ntmps20
    go_wp2_with fail
    refine (both_yes _ _ _ _ _ _ xs ys _ hr hr' hn hn' hx.out hy.out).mono ?_
    rintro e w1 ⟨⟨a0, a1, a2, a3, b0, b1, b2, b3, ha, hb, rfl⟩, hb1⟩
    have HA := Lib.hid ha
    have HBB := Lib.hid hb
    obtain ⟨ua0, ua1, ua2, ua3⟩ := four_lt ha
    obtain ⟨ub0, ub1, ub2, ub3⟩ := four_lt hb
    have HZ := Lib.hid (part_four hx.out hy.out (four_less ha hb))
    clear ha hb hr hr'
    have hz := hb1.size
    go_wp2_with fail
    refine (wless_any a0 a1 a2 a3 b0 b1 b2 b3 _ ua0 ua1 ua2 ua3 ub0 ub1 ub2 ub3).mono ?_
    rintro e w2 ⟨rfl, hb2⟩
    have hb3 : Below w.heap.size w w2 := ((hb1.alloc (by omega) _).alloc (by simp; omega) _).trans (hb2.mono (by simp; omega))
    have hz3 := hb3.size
    go_wp2_with fail
    refine (empty_any _ _ _ _ _).mono ?_
    rintro e w3 ⟨rfl, hb4⟩
    rw [HZ.out]
    generalize hzz : partB xs ys = z at *
    have HZZ := Lib.hid hzz
    clear hzz
    go_wp2
    go_ret
    exact ⟨ret_bool HZZ.out, hb3.trans (hb4.mono hz3)⟩
  · have hno : (rightB xs && rightB ys) = false := by simpa using hxy
    have HL : Hid (partB xs ys = false) := Lib.hid (by unfold partB; rw [hno]; rfl)
    have HN := Lib.hid hno
    clear hxy hno
    go_enter Tryz.func20, Tryz.ntmps20
    go_wp2_with fail
    refine (both_no _ _ _ _ _ _ xs ys _ hr hr' hn hn' HN.out).mono ?_
    rintro e w1 ⟨rfl, hb1⟩
    have hz := hb1.size
    clear hr hr'
    go_wp2
    go_ret
    exact ⟨ret_bool HL.out, (hb1.alloc (by omega) _).alloc (by simp; omega) _⟩

set_option maxHeartbeats 1000000 in
theorem apart_any (A A' : Option Addr) (n c n' c' : Nat) (xs ys : List Int) (w : World) (hr : RI w w.heap.size A n xs) (hr' : RI w w.heap.size A' n' ys) (hn : n ≤ maxLen) (hn' : n' ≤ maxLen) :
    Calls Tryz.prog 21 #[.slice A n c, .slice A' n' c'] w fun e w' => e = .returned (.bool (apartB xs ys)) ∧ Below w.heap.size w w' := by
  by_cases hxy : (rightB xs && rightB ys) = true
  · have hx : Hid (rightB xs = true) := Lib.hid (by simp at hxy; exact hxy.1)
    have hy : Hid (rightB ys = true) := Lib.hid (by simp at hxy; exact hxy.2)
    clear hxy
    go_enter Tryz.func21, Tryz.ntmps21
    go_wp2_with fail
    refine (both_yes _ _ _ _ _ _ xs ys _ hr hr' hn hn' hx.out hy.out).mono ?_
    rintro e w1 ⟨⟨a0, a1, a2, a3, b0, b1, b2, b3, ha, hb, rfl⟩, hb1⟩
    have HA := Lib.hid ha
    have HBB := Lib.hid hb
    obtain ⟨ua0, ua1, ua2, ua3⟩ := four_lt ha
    obtain ⟨ub0, ub1, ub2, ub3⟩ := four_lt hb
    have HZ := Lib.hid (apart_four hx.out hy.out (four_and ha hb))
    clear ha hb hr hr'
    have hz := hb1.size
    go_wp2_with fail
    refine (wmeet_any a0 a1 a2 a3 b0 b1 b2 b3 _ ua0 ua1 ua2 ua3 ub0 ub1 ub2 ub3).mono ?_
    rintro e w2 ⟨rfl, hb2⟩
    have hb3 : Below w.heap.size w w2 := ((hb1.alloc (by omega) _).alloc (by simp; omega) _).trans (hb2.mono (by simp; omega))
    have hz3 := hb3.size
    go_wp2_with fail
    refine (empty_any _ _ _ _ _).mono ?_
    rintro e w3 ⟨rfl, hb4⟩
    rw [HZ.out]
    generalize hzz : apartB xs ys = z at *
    have HZZ := Lib.hid hzz
    clear hzz
    go_wp2
    go_ret
    exact ⟨ret_bool HZZ.out, hb3.trans (hb4.mono hz3)⟩
  · have hno : (rightB xs && rightB ys) = false := by simpa using hxy
    have HL : Hid (apartB xs ys = false) := Lib.hid (by unfold apartB; rw [hno]; rfl)
    have HN := Lib.hid hno
    clear hxy hno
    go_enter Tryz.func21, Tryz.ntmps21
    go_wp2_with fail
    refine (both_no _ _ _ _ _ _ xs ys _ hr hr' hn hn' HN.out).mono ?_
    rintro e w1 ⟨rfl, hb1⟩
    have hz := hb1.size
    clear hr hr'
    go_wp2
    go_ret
    exact ⟨ret_bool HL.out, (hb1.alloc (by omega) _).alloc (by simp; omega) _⟩


theorem has_word {xs : List Int} {a i r x : Nat} (h : a = wordOf (inB xs) i) (hs : rightB xs = true) (hr : r < 64) (hx : x = 64 * i + r) : hasB xs (x : Int) = (bits .and .u64 ((a : Int) / 2 ^ r) 1 == 1) := by
  subst h
  have hlt : wordOf (inB xs) i / 2 ^ r < 18446744073709551616 := Nat.lt_of_le_of_lt (Nat.div_le_self _ _) (wordOf_lt _ _)
  have e : ((wordOf (inB xs) i : Nat) : Int) / 2 ^ r = ((wordOf (inB xs) i / 2 ^ r : Nat) : Int) := by simp
  have e2 : bits .and .u64 (((wordOf (inB xs) i / 2 ^ r : Nat) : Int)) 1 = ((wordOf (inB xs) i / 2 ^ r &&& 1 : Nat) : Int) := u64_and_nat _ 1 hlt (by omega)
  rw [e, e2, nat_mask1]
  have hb : hasB xs (x : Int) = (wordOf (inB xs) i).testBit r := by
    unfold wordOf
    rw [testBit_bitsTo, ← hx]
    unfold hasB inB
    simp [hs, hr]
  rw [hb, Nat.testBit_eq_decide_div_mod_eq, Bool.eq_iff_iff]
  simp
  omega



end Go.Proofs.YtpoalgkgomljmaaGreatDoor
