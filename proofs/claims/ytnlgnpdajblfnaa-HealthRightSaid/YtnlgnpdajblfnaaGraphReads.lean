/- The reference's readers of a graph (bailiwickref05): Tag, Right, Over: what they answer of any list of things. -/
import Derived.Test.YtnlgnpdajblfnaaGraphWords
import Derived.LoopTactic
import Derived.Deep.QuietTactic
import Derived.BigQuiet
namespace Go.Proofs.Ytnlgnpdajblfnaa
open Go.RowKit


set_option maxRecDepth 100000 in
set_option maxHeartbeats 2000000 in
theorem refTag_any (s : ByteArray) (w : World) (hs : s.size ≤ maxLen) :
    Calls Try.prog 24 #[.string s] w fun e w' => e = .returned (.bool (tagB s)) ∧ w = w' := by
  unfold maxLen at hs
  go_enter Try.func24, Try.ntmps24
  go_wp2
  go_loop [3] (fun i => ∃ k : Nat, k ≤ s.size ∧ i = .int .i64 k ∧ (s.data.toList.take k).all tagC = true) (fun i => s.size - (intOf i).toNat)
  case atStart => exact ⟨0, Nat.zero_le _, rfl, rfl⟩
  case round =>
    obtain ⟨k, hk, rfl, hpre⟩ := hrel
    have HP := Lib.hid hpre
    clear hpre
    by_cases hlt : k < s.size
    · have hs1 := Lib.hid (bytes_snoc s k hlt)
      have hno : Hid (tagC s[k] = false → tagB s = false) := Lib.hid (fun h => by
        unfold tagB
        have : s.data.toList.all tagC = false := by
          rw [List.all_eq_false]
          exact ⟨s[k], Array.getElem_mem_toList _, by rw [h]; simp⟩
        rw [this]; rfl)
      have hyes : Hid (tagC s[k] = true → (s.data.toList.take (k + 1)).all tagC = true) := Lib.hid (fun h => by rw [hs1.out, List.all_append, HP.out]; simp [h])
      have hC : Hid (tagC s[k] = ((97 ≤ s[k].toNat && s[k].toNat ≤ 122) || (48 ≤ s[k].toNat && s[k].toNat ≤ 57))) := Lib.hid rfl
      rcases (show s[k].toNat < 48 ∨ (48 ≤ s[k].toNat ∧ s[k].toNat ≤ 57) ∨ (57 < s[k].toNat ∧ s[k].toNat < 97) ∨ (97 ≤ s[k].toNat ∧ s[k].toNat ≤ 122) ∨ 122 < s[k].toNat by omega) with h | ⟨h, h'⟩ | ⟨h, h'⟩ | ⟨h, h'⟩ | h
      · have e1 := Lib.hid (hno.out (by rw [hC.out]; simp; omega))
        clear hno hyes hC hs1
        have d0 : decide (48 ≤ (s[k].toNat : Int)) = false := by simp; omega
        have d1 : decide ((s[k].toNat : Int) ≤ 57) = true := by simp; omega
        have d2 : decide (97 ≤ (s[k].toNat : Int)) = false := by simp; omega
        have d3 : decide ((s[k].toNat : Int) ≤ 122) = true := by simp; omega
        go_wp2
        go_ret
        exact ⟨ret_bool e1.out, rfl⟩
      · have e1 := Lib.hid (hyes.out (by rw [hC.out]; simp; omega))
        clear hno hyes hC hs1
        have d0 : decide (48 ≤ (s[k].toNat : Int)) = true := by simp; omega
        have d1 : decide ((s[k].toNat : Int) ≤ 57) = true := by simp; omega
        have d2 : decide (97 ≤ (s[k].toNat : Int)) = false := by simp; omega
        have d3 : decide ((s[k].toNat : Int) ≤ 122) = true := by simp; omega
        go_wp2
        go_round
        case rel => exact ⟨k + 1, by omega, by go_num, e1.out⟩
        case measure => simp [intOf]; omega
      · have e1 := Lib.hid (hno.out (by rw [hC.out]; simp; omega))
        clear hno hyes hC hs1
        have d0 : decide (48 ≤ (s[k].toNat : Int)) = true := by simp; omega
        have d1 : decide ((s[k].toNat : Int) ≤ 57) = false := by simp; omega
        have d2 : decide (97 ≤ (s[k].toNat : Int)) = false := by simp; omega
        have d3 : decide ((s[k].toNat : Int) ≤ 122) = true := by simp; omega
        go_wp2
        go_ret
        exact ⟨ret_bool e1.out, rfl⟩
      · have e1 := Lib.hid (hyes.out (by rw [hC.out]; simp; omega))
        clear hno hyes hC hs1
        have d0 : decide (48 ≤ (s[k].toNat : Int)) = true := by simp; omega
        have d1 : decide ((s[k].toNat : Int) ≤ 57) = false := by simp; omega
        have d2 : decide (97 ≤ (s[k].toNat : Int)) = true := by simp; omega
        have d3 : decide ((s[k].toNat : Int) ≤ 122) = true := by simp; omega
        go_wp2
        go_round
        case rel => exact ⟨k + 1, by omega, by go_num, e1.out⟩
        case measure => simp [intOf]; omega
      · have e1 := Lib.hid (hno.out (by rw [hC.out]; simp; omega))
        clear hno hyes hC hs1
        have d0 : decide (48 ≤ (s[k].toNat : Int)) = true := by simp; omega
        have d1 : decide ((s[k].toNat : Int) ≤ 57) = false := by simp; omega
        have d2 : decide (97 ≤ (s[k].toNat : Int)) = true := by simp; omega
        have d3 : decide ((s[k].toNat : Int) ≤ 122) = false := by simp; omega
        go_wp2
        go_ret
        exact ⟨ret_bool e1.out, rfl⟩
    · have hkn : k = s.size := by omega
      have hA : Hid (s.data.toList.all tagC = true) := Lib.hid (by have := HP.out; rwa [List.take_of_length_le (by simp; omega)] at this)
      by_cases h16 : s.size ≤ 16
      · have e1 : Hid (tagB s = true) := Lib.hid (by unfold tagB; rw [hA.out, decide_eq_true h16]; rfl)
        have h16d : decide ((s.size : Int) ≤ 16) = true := by simp; omega
        clear hkn
        go_wp2
        go_ret
        exact ⟨ret_bool e1.out, rfl⟩
      · have e1 : Hid (tagB s = false) := Lib.hid (by unfold tagB; rw [decide_eq_false h16, Bool.and_false])
        have h16d : decide ((s.size : Int) ≤ 16) = false := by simp; omega
        clear hkn
        go_wp2
        go_ret
        exact ⟨ret_bool e1.out, rfl⟩
theorem refTag_b {s : ByteArray} {w : World} {b : Bool} (hs : s.size ≤ maxLen) (h : tagB s = b) : Calls Try.prog 24 #[.string s] w fun e w' => e = .returned (.bool b) ∧ w = w' := by
  subst h; exact refTag_any s w hs

set_option maxRecDepth 100000 in
set_option maxHeartbeats 8000000 in
theorem refRightG_any (A : Option Addr) (n c : Nat) (g : Gr) (w : World) (hr : RG w w.heap.size A n g) (hn : n ≤ maxLen) :
    Calls Try.prog 10 #[.slice A n c] w fun e w' => e = .returned (.bool (rightG g)) ∧ Below w.heap.size w w' := by
  unfold maxLen at hn
  have HR := Lib.hid hr
  clear hr
  by_cases h0 : n = 0
  · have e1 : Hid (rightG g = false) := Lib.hid (by unfold rightG; rw [decide_eq_false_iff_not]; exact fun h => h.1 (List.eq_nil_of_length_eq_zero (by rw [HR.out.len]; exact h0)))
    subst h0
    go_enter Try.func10, Try.ntmps10
    go_wp2
    go_ret
    exact ⟨ret_bool e1.out, Below.refl _ _⟩
  · by_cases h256 : 256 < n
    · have e1 : Hid (rightG g = false) := Lib.hid (by unfold rightG; rw [decide_eq_false_iff_not, HR.out.len]; omega)
      have h0p : 0 < n := by omega
      have hn0 : ((n : Int) == 0) = false := by simp; omega
      go_enter Try.func10, Try.ntmps10
      go_wp2
      go_ret
      exact ⟨ret_bool e1.out, Below.refl _ _⟩
    · have h0p : 0 < n := by omega
      have h256d : decide (256 < (n : Int)) = false := by simp; omega
      have hn0 : ((n : Int) == 0) = false := by simp; omega
      go_enter Try.func10, Try.ntmps10
      go_wp2
      go_loopw [3] (fun i wr => ∃ k : Nat, k ≤ n ∧ i = .int .i64 k ∧ (∀ j, j < k → okT g j) ∧ Below w.heap.size w wr) (fun i _ => n - (intOf i).toNat)
      case atStart => exact ⟨0, Nat.zero_le _, rfl, fun j hj => absurd hj (by omega), Below.refl _ _⟩
      case round =>
        obtain ⟨k, hk, rfl, hpre, hb⟩ := hrel
        have HP := Lib.hid hpre
        have HB := Lib.hid hb
        clear hpre hb
        by_cases hlt : k < n
        · have hRw := Lib.hid (HR.out.next HB.out)
          obtain ⟨b, off, rfl, hbw, hc0, hc1, hc2, hbd⟩ := hRw.out.one hlt
          have hsz := Lib.hid hbd.2.2
          clear hbd
          have hkg : Hid (k < g.length) := Lib.hid (by rw [HR.out.len]; exact hlt)
          obtain ⟨kk, hkk⟩ : ∃ kk, gk g k = kk := ⟨_, rfl⟩
          obtain ⟨uu, huu⟩ : ∃ uu, gu g k = uu := ⟨_, rfl⟩
          obtain ⟨ss, hss⟩ : ∃ ss, gt g k = ss := ⟨_, rfl⟩
          rw [hkk] at hc0
          rw [huu] at hc1
          rw [hss] at hc2 hsz
          have HK := Lib.hid hkk
          have HU := Lib.hid huu
          have HS := Lib.hid hss
          clear hkk huu hss
          have HBA : Hid (Below w.heap.size w (wr.alloc (.cells #[.int .i64 kk, .int .i64 uu, .string ss] 40))) := Lib.hid (HB.out.alloc HB.out.size _)
          by_cases hk0 : k = 0
          · subst hk0
            simp only [Nat.zero_mul, Nat.add_zero] at hc0 hc1 hc2
            have hno : Hid (¬ (kk = 0 ∧ uu = -1 ∧ ss.size = 0) → rightG g = false) := Lib.hid (fun h => rightG_no hkg.out (by rw [okT_zero, HK.out, HU.out, HS.out]; exact h))
            have hyes : Hid ((kk = 0 ∧ uu = -1 ∧ ss.size = 0) → ∀ j, j < 0 + 1 → okT g j) := Lib.hid (fun h j hj => by
              obtain rfl : j = 0 := by omega
              rw [okT_zero, HK.out, HU.out, HS.out]; exact h)
            by_cases h1 : kk = 0
            · by_cases h2 : uu = -1
              · by_cases h3 : ss.size = 0
                · obtain rfl := str_empty h3
                  have e1 := Lib.hid (hyes.out ⟨h1, h2, h3⟩)
                  clear hno hyes h3
                  subst h1 h2
                  go_wp2
                  go_roundw
                  case rel => exact ⟨1, by omega, rfl, e1.out, HBA.out⟩
                  case measure => simp [intOf]; omega
                · have e1 := Lib.hid (hno.out (fun h => h3 h.2.2))
                  obtain ⟨f1, f2, f3, f4⟩ := str_facts h3
                  clear hno hyes h3
                  subst h1 h2
                  go_wp2
                  go_ret
                  exact ⟨ret_bool e1.out, HBA.out⟩
              · have e1 := Lib.hid (hno.out (fun h => h2 h.2.1))
                have h2d : (uu != -1) = true := by simpa using h2
                clear hno hyes
                subst h1
                go_wp2
                go_ret
                exact ⟨ret_bool e1.out, HBA.out⟩
            · have e1 := Lib.hid (hno.out (fun h => h1 h.1))
              have h1d : (kk != 0) = true := by simpa using h1
              clear hno hyes
              go_wp2
              go_ret
              exact ⟨ret_bool e1.out, HBA.out⟩
          · have hkp : 0 < k := by omega
            clear hk0
            have hno : Hid (¬ (0 ≤ uu ∧ uu < k ∧ (ss.size = 0 ∨ kk = 2) ∧ tagB ss = true ∧ ((kk = 1 ∧ gk g uu.toNat = 0) ∨ (kk = 2 ∧ gk g uu.toNat < 2) ∨ ((kk = 3 ∨ kk = 4) ∧ gk g uu.toNat = 2))) → rightG g = false) := Lib.hid (fun h => rightG_no hkg.out (by rw [okT_pos (by omega), HK.out, HU.out, HS.out]; exact h))
            have hyes : Hid ((0 ≤ uu ∧ uu < k ∧ (ss.size = 0 ∨ kk = 2) ∧ tagB ss = true ∧ ((kk = 1 ∧ gk g uu.toNat = 0) ∨ (kk = 2 ∧ gk g uu.toNat < 2) ∨ ((kk = 3 ∨ kk = 4) ∧ gk g uu.toNat = 2))) → ∀ j, j < k + 1 → okT g j) := Lib.hid (fun h j hj => by
              rcases Nat.lt_or_ge j k with h' | h'
              · exact HP.out j h'
              · obtain rfl : j = k := by omega
                rw [okT_pos (by omega), HK.out, HU.out, HS.out]; exact h)
            by_cases h1 : uu < 0
            · have e1 := Lib.hid (hno.out (fun h => by have := h.1; omega))
              clear hno hyes
              go_wp2
              go_ret
              exact ⟨ret_bool e1.out, HBA.out⟩
            · by_cases h2 : (k : Int) ≤ uu
              · have e1 := Lib.hid (hno.out (fun h => by have := h.2.1; omega))
                have h1d : decide (uu < 0) = false := by simpa using h1
                clear hno hyes
                go_wp2
                go_ret
                exact ⟨ret_bool e1.out, HBA.out⟩
              · have h1d : decide (uu < 0) = false := by simpa using h1
                have h2d : decide ((k : Int) ≤ uu) = false := by simpa using h2
                by_cases h3 : ss.size = 0 ∨ kk = 2
                · cases h4 : tagB ss with
                  | true =>
                    have HT := Lib.hid h4
                    clear h4
                    obtain ⟨v, hv⟩ : ∃ v, gk g uu.toNat = v := ⟨_, rfl⟩
                    have HV := Lib.hid hv
                    have hup : uu.toNat < n := by omega
                    obtain ⟨b', off', e', _, hcu, _, _, _⟩ := hRw.out.one hup
                    injection e' with e'
                    injection e' with e1' e2'
                    subst e1' e2'
                    rw [hv] at hcu
                    clear hv
                    obtain ⟨u, rfl⟩ : ∃ u : Nat, uu = (u : Int) := ⟨uu.toNat, by omega⟩
                    rw [Int.toNat_natCast] at hcu HV hno hyes hup
                    rw [HV.out] at hno hyes
                    have hun : (u : Int) < (n : Int) := by omega
                    by_cases h5 : (kk = 1 ∧ v = 0) ∨ (kk = 2 ∧ v < 2) ∨ ((kk = 3 ∨ kk = 4) ∧ v = 2)
                    · have e1 := Lib.hid (hyes.out ⟨by omega, by omega, h3, HT.out, h5⟩)
                      clear hno hyes
                      rcases h3 with h3 | h3
                      · obtain rfl := str_empty h3
                        clear h3
                        rcases h5 with ⟨rfl, rfl⟩ | ⟨rfl, h5⟩ | ⟨rfl | rfl, rfl⟩
                        all_goals
                          go_wp2_with fail
                          refine (refTag_b (by decide) HT.out).mono ?_
                          rintro e w9 ⟨rfl, rfl⟩
                          go_wp2
                          go_roundw
                          case rel => exact ⟨k + 1, by omega, by go_num, e1.out, HBA.out⟩
                          case measure => simp [intOf]; omega
                      · subst h3
                        have h5' : v < 2 := by omega
                        clear h5
                        by_cases h6 : ss.size = 0
                        · obtain rfl := str_empty h6
                          clear h6
                          go_wp2_with fail
                          refine (refTag_b (by decide) HT.out).mono ?_
                          rintro e w9 ⟨rfl, rfl⟩
                          go_wp2
                          go_roundw
                          case rel => exact ⟨k + 1, by omega, by go_num, e1.out, HBA.out⟩
                          case measure => simp [intOf]; omega
                        · obtain ⟨f1, f2, f3, f4⟩ := str_facts h6
                          clear h6
                          go_wp2_with fail
                          refine (refTag_b (by have := tagB_size HT.out; unfold maxLen; omega) HT.out).mono ?_
                          rintro e w9 ⟨rfl, rfl⟩
                          go_wp2
                          go_roundw
                          case rel => exact ⟨k + 1, by omega, by go_num, e1.out, HBA.out⟩
                          case measure => simp [intOf]; omega
                    · have e1 := Lib.hid (hno.out (fun h => h5 h.2.2.2.2))
                      clear hno hyes
                      have hTM : Hid (ss.size ≤ maxLen) := Lib.hid (by have := tagB_size HT.out; unfold maxLen; omega)
                      have kd : ∀ (q : Int), kk = q ∨ (kk == q) = false := fun q => by
                        by_cases h : kk = q
                        · exact .inl h
                        · exact .inr (by simpa using h)
                      have h5a : kk = 1 → (v == 0) = false := fun h => by simp; exact fun hv => h5 (.inl ⟨h, hv⟩)
                      have h5b : kk = 2 → decide (v < 2) = false := fun h => by simp; exact Int.not_lt.1 (fun hv => h5 (.inr (.inl ⟨h, hv⟩)))
                      have h5c : kk = 3 ∨ kk = 4 → (v == 2) = false := fun h => by simp; exact fun hv => h5 (.inr (.inr ⟨h, hv⟩))
                      have K := Lib.hid (And.intro h5a (And.intro h5b h5c))
                      have KD := Lib.hid kd
                      clear h5 h5a h5b h5c kd
                      rcases h3 with h3 | h3
                      · obtain rfl := str_empty h3
                        clear h3
                        rcases KD.out 1 with rfl | k1
                        · have f1 := K.out.1 rfl
                          go_wp2_with fail
                          refine (refTag_b hTM.out HT.out).mono ?_
                          rintro e w9 ⟨rfl, rfl⟩
                          go_wp2
                          go_ret
                          exact ⟨ret_bool e1.out, HBA.out⟩
                        · rcases KD.out 2 with rfl | k2
                          · have f1 := K.out.2.1 rfl
                            go_wp2_with fail
                            refine (refTag_b hTM.out HT.out).mono ?_
                            rintro e w9 ⟨rfl, rfl⟩
                            go_wp2
                            go_ret
                            exact ⟨ret_bool e1.out, HBA.out⟩
                          · rcases KD.out 3 with rfl | k3
                            · have f1 := K.out.2.2 (.inl rfl)
                              go_wp2_with fail
                              refine (refTag_b hTM.out HT.out).mono ?_
                              rintro e w9 ⟨rfl, rfl⟩
                              go_wp2
                              go_ret
                              exact ⟨ret_bool e1.out, HBA.out⟩
                            · rcases KD.out 4 with rfl | k4
                              · have f1 := K.out.2.2 (.inr rfl)
                                go_wp2_with fail
                                refine (refTag_b hTM.out HT.out).mono ?_
                                rintro e w9 ⟨rfl, rfl⟩
                                go_wp2
                                go_ret
                                exact ⟨ret_bool e1.out, HBA.out⟩
                              · go_wp2_with fail
                                refine (refTag_b hTM.out HT.out).mono ?_
                                rintro e w9 ⟨rfl, rfl⟩
                                go_wp2
                                go_ret
                                exact ⟨ret_bool e1.out, HBA.out⟩
                      · subst h3
                        have f5 := K.out.2.1 rfl
                        clear K KD
                        by_cases h6 : ss.size = 0
                        · obtain rfl := str_empty h6
                          clear h6
                          go_wp2_with fail
                          refine (refTag_b hTM.out HT.out).mono ?_
                          rintro e w9 ⟨rfl, rfl⟩
                          go_wp2
                          go_ret
                          exact ⟨ret_bool e1.out, HBA.out⟩
                        · obtain ⟨f1, f2, f3, f4⟩ := str_facts h6
                          clear h6
                          go_wp2_with fail
                          refine (refTag_b hTM.out HT.out).mono ?_
                          rintro e w9 ⟨rfl, rfl⟩
                          go_wp2
                          go_ret
                          exact ⟨ret_bool e1.out, HBA.out⟩
                  | false =>
                    have e1 := Lib.hid (hno.out (fun h => by rw [h.2.2.2.1] at h4; cases h4))
                    have HT := Lib.hid h4
                    clear hno hyes h4
                    rcases h3 with h3 | h3
                    · obtain rfl := str_empty h3
                      have := HT.out
                      exact absurd this (by decide)
                    · subst h3
                      by_cases h6 : ss.size = 0
                      · obtain rfl := str_empty h6
                        have := HT.out
                        exact absurd this (by decide)
                      · obtain ⟨f1, f2, f3, f4⟩ := str_facts h6
                        clear h6
                        go_wp2_with fail
                        refine (refTag_b hsz.out HT.out).mono ?_
                        rintro e w9 ⟨rfl, rfl⟩
                        go_wp2
                        go_ret
                        exact ⟨ret_bool e1.out, HBA.out⟩
                · have e1 := Lib.hid (hno.out (fun h => h3 h.2.2.1))
                  clear hno hyes
                  have h3a : ss.size ≠ 0 := fun h => h3 (.inl h)
                  have h3b : (kk != 2) = true := by simp; exact fun h => h3 (.inr h)
                  obtain ⟨f1, f2, f3, f4⟩ := str_facts h3a
                  clear h3 h3a
                  go_wp2
                  go_ret
                  exact ⟨ret_bool e1.out, HBA.out⟩
        · have hkn : k = n := by omega
          have e1 : Hid (rightG g = true) := Lib.hid (by
            unfold rightG
            rw [decide_eq_true_eq, HR.out.len]
            exact ⟨fun h => by have := HR.out.len; rw [h] at this; exact h0 this.symm, by omega, fun j hj => HP.out j (by omega)⟩)
          clear hkn
          go_wp2
          go_ret
          exact ⟨ret_bool e1.out, HB.out⟩


end Go.Proofs.Ytnlgnpdajblfnaa
