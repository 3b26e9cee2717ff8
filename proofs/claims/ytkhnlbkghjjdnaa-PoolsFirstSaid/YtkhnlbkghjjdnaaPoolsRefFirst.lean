/- The reference's First of pools (bailiwickref04): of any list of profiles, time, length and amounts. -/
import Derived.Test.YtkhnlbkghjjdnaaPoolsFirstMath
namespace Go.Proofs.Ytkhnlbkghjjdnaa
open Go.RowKit

theorem RSS.drewN {w : World} {B n : Nat} {A : Option Addr} {ls : List (List (Int × Int))} (h : RSS w B A n ls) (k : Nat) : RSS (w.drewN k) B A n ls := RN.drewN h es_steady k

set_option maxRecDepth 100000 in
set_option maxHeartbeats 1000000 in
theorem refFits_any (A : Option Addr) (n c : Nat) (A2 : Option Addr) (n2 c2 : Nat) (ls : List (List (Int × Int))) (t l : Int) (ns : List Int) (w : World)
    (hr : RSS w w.heap.size A n ls) (hr2 : RI w w.heap.size A2 n2 ns) (hn : n ≤ 4) (hnn : n2 = n) (hst : ∀ j, j < n → (ls.getD j []).length ≤ 1024) (ht : I64 t) (hl : I64 l) :
    Calls Try.prog 40 #[.slice A n c, .int .i64 t, .int .i64 l, .slice A2 n2 c2] w fun e w' => e = .returned (.bool (fitsPP ls t l ns)) ∧ ∃ q, w' = w.drewN q := by
  subst hnn
  have HR := Lib.hid hr
  have HN := Lib.hid hr2
  have HST := Lib.hid hst
  have HT := Lib.hid ht
  have HL := Lib.hid hl
  clear hr hr2 hst ht hl
  go_enter Try.func40, Try.ntmps40
  go_wp2
  go_loopw [9] (fun i wr => ∃ k : Nat, k ≤ n2 ∧ i = .int .i64 k ∧ (∀ j, j < k → ¬ leastR (ls.getD j []) t (plusZ t l) < ns.getD j 0) ∧ ∃ q, wr = w.drewN q) (fun i _ => n2 - (intOf i).toNat)
  case atStart => exact ⟨0, Nat.zero_le _, rfl, fun i hi => absurd hi (by omega), 0, rfl⟩
  case round =>
    obtain ⟨k, hk, rfl, hpre, hq⟩ := hrel
    have HP := Lib.hid hpre
    have HQ := Lib.hid hq
    clear hpre hq
    by_cases hlt : k < n2
    · have hRr : Hid (RSS wr w.heap.size A n2 ls) := Lib.hid (by obtain ⟨q, e⟩ := HQ.out; rw [e]; exact HR.out.drewN q)
      have hNr : Hid (RI wr w.heap.size A2 n2 ns) := Lib.hid (by obtain ⟨q, e⟩ := HQ.out; rw [e]; exact HN.out.drewN q)
      obtain ⟨b, off, A', m, c', rfl, _, hc, hr', _, _, hm⟩ := hRr.out.one hlt
      obtain ⟨b2, off2, rfl, _, hc2⟩ := hNr.out.one hlt
      have HR' := Lib.hid hr'
      clear hr'
      have hm2 : m ≤ 2000 := by have h1 := HST.out k hlt; have h2 := HR'.out.1; omega
      have hno : Hid (leastR (ls.getD k []) t (plusZ t l) < ns.getD k 0 → fitsPP ls t l ns = false) := Lib.hid (fun h => by
        unfold fitsPP
        rw [decide_eq_false_iff_not]
        exact fun h' => h' k (by rw [HR.out.len]; exact hlt) h)
      have hnext : Hid (¬ leastR (ls.getD k []) t (plusZ t l) < ns.getD k 0 → ∀ j, j < k + 1 → ¬ leastR (ls.getD j []) t (plusZ t l) < ns.getD j 0) := Lib.hid (by
        intro h j hj
        rcases Nat.lt_or_ge j k with h' | h'
        · exact HP.out j h'
        · obtain rfl : j = k := by omega
          exact h)
      have HLE : Hid (∀ q', Calls Try.prog 52 #[.slice A' m c', .int .i64 t, .int .i64 (plusZ t l)] (wr.drewN q') fun e w' => e = .returned (.int .i64 (leastR (ls.getD k []) t (plusZ t l))) ∧ w' = wr.drewN q') :=
        Lib.hid (fun q' => (refleast_any A' m c' (ls.getD k []) t (plusZ t l) _ _ (HR'.out.drewN q') hm2).mono fun _ _ ⟨h1, h2⟩ => ⟨h1, h2.symm⟩)
      have HPL : Hid (∀ q', Calls Try.prog 56 #[.int .i64 t, .int .i64 l] (wr.drewN q') fun e w' => e = .returned (.int .i64 (plusZ t l)) ∧ w' = wr.drewN q') :=
        Lib.hid (fun q' => (refPlus_any t l _ HT.out.1 HT.out.2 HL.out.1 HL.out.2).mono fun _ _ ⟨h1, h2⟩ => ⟨h1, h2.symm⟩)
      generalize leastR (ls.getD k []) t (plusZ t l) = y at *
      generalize ns.getD k 0 = x at *
      generalize plusZ t l = u at *
      by_cases hyx : y < x
      · have e1 := Lib.hid (hno.out hyx)
        clear hno hnext
        go_wp2
        go_quiet ((first | (go_at_call 52; exact Calls.quiet_of_same (HLE.out _)) | (go_at_call 56; exact Calls.quiet_of_same (HPL.out _))))
        go_wp2
        go_ret
        obtain ⟨q, e⟩ := HQ.out
        exact ⟨ret_bool e1.out, _, by rw [e]; exact World.drewN_drewN _ _ _⟩
      · have e1 := Lib.hid (hnext.out hyx)
        clear hno hnext
        go_wp2
        go_quiet ((first | (go_at_call 52; exact Calls.quiet_of_same (HLE.out _)) | (go_at_call 56; exact Calls.quiet_of_same (HPL.out _))))
        go_wp2
        go_roundw
        case rel => exact ⟨k + 1, by omega, by go_num, fun j hj => by have := e1.out j hj; omega, by obtain ⟨q, e⟩ := HQ.out; exact ⟨_, by rw [e]; exact World.drewN_drewN _ _ _⟩⟩
        case measure => simp [intOf]; omega
    · have hF : Hid (fitsPP ls t l ns = true) := Lib.hid (by
        unfold fitsPP
        rw [decide_eq_true_eq]
        exact fun j hj => HP.out j (by rw [HR.out.len] at hj; omega))
      go_wp2
      go_ret
      exact ⟨ret_bool hF.out, HQ.out⟩

theorem goodPP_no {ls : List (List (Int × Int))} {a l : Int} {ns : List Int} (h : (rightPP ls = true ∧ ns.length = ls.length ∧ 0 ≤ a ∧ a < 4611686018427387904 ∧ 1 ≤ l ∧ ∀ j, j < ns.length → 0 ≤ ns.getD j 0 ∧ ns.getD j 0 ≤ 1048576) → False) : firstPP ls a l ns = (0, false) := by
  refine firstPP_bad ?_
  unfold goodPP NEVER MAXF
  rw [Bool.and_eq_false_iff, decide_eq_false_iff_not]
  by_cases hp : rightPP ls = true
  · exact .inr fun hh => h ⟨hp, hh⟩
  · exact .inl (by simpa using hp)
theorem map_getD (p : List (Int × Int)) (k : Nat) : (p.map (·.1)).getD k 0 = (p.getD k (0, 0)).1 := by
  simp only [List.getD, List.getElem?_map]
  cases p[k]? <;> rfl
theorem grp_len {ls : List (List (Int × Int))} {a : Int} {m : Nat} : (grp ls a m).length = if m = 0 then 1 else (ls.getD (m - 1) []).length := by unfold grp; split <;> simp
theorem preG_range {ls : List (List (Int × Int))} {a : Int} (h0 : 0 ≤ a) (hc : ∀ j, j < ls.length → Canon (ls.getD j [])) {m k : Nat} (hm : m ≤ ls.length) (hk : k < (grp ls a m).length) : 0 ≤ (grp ls a m).getD k 0 ∧ ((grp ls a m).getD k 0 ≤ 4611686018427387904 ∨ (grp ls a m).getD k 0 = a) := by
  unfold grp at *
  split
  · rename_i h
    rw [if_pos h] at hk
    have : k = 0 := by simpa using hk
    subst this
    exact ⟨h0, .inr rfl⟩
  · rename_i h
    rw [if_neg h, List.length_map] at hk
    have := canon_times (hc (m - 1) (by omega)) _ (List.getElem_mem hk)
    have e : ((ls.getD (m - 1) []).map (·.1)).getD k 0 = ((ls.getD (m - 1) [])[k]).1 := by
      rw [List.getD, List.getElem?_map, List.getElem?_eq_getElem hk]
      rfl
    rw [e]
    exact ⟨this.1, .inl this.2⟩

set_option maxRecDepth 100000 in
set_option maxHeartbeats 8000000 in
theorem refFirstPP_len (A : Option Addr) (n c : Nat) (A2 : Option Addr) (n2 c2 : Nat) (ls : List (List (Int × Int))) (a l : Int) (ns : List Int) (w : World)
    (hr : RSS w w.heap.size A n ls) (hr2 : RI w w.heap.size A2 n2 ns) (hn : n ≤ maxLen) (hrp : rightPP ls = true) (hnn : n2 = n) (h0 : 0 ≤ a) (h1 : a < 4611686018427387904) (hl1 : 1 ≤ l) (hl2 : l ≤ 9223372036854775807) :
    Calls Try.prog 23 #[.slice A n c, .int .i64 a, .int .i64 l, .slice A2 n2 c2] w fun e w' => e = .returned (.tuple #[.int .i64 (firstPP ls a l ns).1, .bool (firstPP ls a l ns).2]) ∧ Below w.heap.size w w' := by
  subst hnn
  have HR := Lib.hid hr
  have HN := Lib.hid hr2
  have HML := Lib.hid hn
  have HRP := Lib.hid hrp
  have HCAN := Lib.hid (rightPP_canon hrp)
  have hn4 : n2 ≤ 4 := by
    have := hrp
    unfold rightPP at this
    rw [decide_eq_true_eq] at this
    rw [← hr.len]; exact this.2.1
  obtain ⟨r, hr0⟩ : ∃ r, firstPP ls a l ns = r := ⟨_, rfl⟩
  have HRES := Lib.hid hr0
  have HST : Hid (∀ j, j < n2 → (ls.getD j []).length ≤ 1024) := Lib.hid (fun j hj => (HCAN.out j (by rw [HR.out.len]; exact hj)).2.2)
  rw [hr0]
  clear hr hr2 hn hrp hr0
  go_enter Try.func23, Try.ntmps23
  go_wp2_with fail
  refine (refRightPP_any _ _ _ ls _ HR.out HML.out).mono ?_
  rintro e w1 ⟨rfl, hb⟩
  rw [HRP.out]
  have HB1 := Lib.hid hb
  clear hb
  have HR1 := Lib.hid (HR.out.next HB1.out)
  have HN1 := Lib.hid (HN.out.next HB1.out)
  go_wp2
  go_loop [10] (fun i => ∃ k : Nat, k ≤ n2 ∧ i = .int .i64 k ∧ ∀ j, j < k → 0 ≤ ns.getD j 0 ∧ ns.getD j 0 ≤ 1048576) (fun i => n2 - (intOf i).toNat)
  case atStart => exact ⟨0, Nat.zero_le _, rfl, fun j hj => absurd hj (by omega)⟩
  case round =>
    obtain ⟨k, hk, rfl, hpre⟩ := hrel
    have HP := Lib.hid hpre
    clear hpre
    by_cases hlt : k < n2
    · obtain ⟨b2, off2, rfl, _, hc2⟩ := HN1.out.one hlt
      obtain ⟨x, hx⟩ : ∃ x, ns.getD k 0 = x := ⟨_, rfl⟩
      rw [hx] at hc2
      have HX := Lib.hid hx
      clear hx
      by_cases hx0 : x < 0
      · have hz : Hid (r = (0, false)) := Lib.hid (HRES.out.symm.trans (goodPP_no fun h => by have := h.2.2.2.2.2 k (by rw [HN.out.1]; exact hlt); rw [HX.out] at this; omega))
        have hz2 := hz.out
        subst hz2
        go_wp2
        go_ret2
        exact ⟨rfl, HB1.out⟩
      · by_cases hx1 : 1048576 < x
        · have hz : Hid (r = (0, false)) := Lib.hid (HRES.out.symm.trans (goodPP_no fun h => by have := h.2.2.2.2.2 k (by rw [HN.out.1]; exact hlt); rw [HX.out] at this; omega))
          have hz2 := hz.out
          subst hz2
          have hd : decide (x < 0) = false := by simpa using hx0
          go_wp2
          go_ret2
          exact ⟨rfl, HB1.out⟩
        · have hd : decide (x < 0) = false := by simpa using hx0
          have hd1 : decide (1048576 < x) = false := by simpa using hx1
          have hnx : Hid (∀ j, j < k + 1 → 0 ≤ ns.getD j 0 ∧ ns.getD j 0 ≤ 1048576) := Lib.hid (by
            intro j hj
            rcases Nat.lt_or_ge j k with h' | h'
            · exact HP.out j h'
            · obtain rfl : j = k := by omega
              rw [HX.out]; omega)
          go_wp2
          go_round
          case rel => exact ⟨k + 1, by omega, by go_num, hnx.out⟩
          case measure => simp [intOf]; omega
    · obtain rfl : n2 = k := by omega
      have HG : Hid (goodPP ls a l ns = true) := Lib.hid (by
        unfold goodPP NEVER MAXF
        rw [HRP.out, decide_eq_true ⟨by rw [HN.out.1, HR.out.len], h0, h1, hl1, fun j hj => HP.out j (by rw [HN.out.1] at hj; exact hj)⟩]
        rfl)
      clear HP
      have HFI : Hid (r = if (preG ls a (ls.length + 1)).foldl (bestF (testPP ls a l ns)) (-1) < 0 then (0, false) else ((preG ls a (ls.length + 1)).foldl (bestF (testPP ls a l ns)) (-1), true)) := Lib.hid (by
        rw [← HRES.out]; unfold firstPP; rw [if_neg (by rw [HG.out]; simp)])
      go_wp2
      go_loopg [11, 12] (n2 + 1) (fun g bv i wr => ∃ m : Nat, m ≤ n2 + 1 ∧ g = n2 + 1 - m ∧ i = .int .i64 ((m : Int) - 1) ∧ bv = .int .i64 ((preG ls a m).foldl (bestF (testPP ls a l ns)) (-1)) ∧ ∃ q, wr = w1.drewN q)
      case atStart => exact ⟨0, by omega, rfl, rfl, rfl, 0, rfl⟩
      case round =>
        obtain ⟨m, hm, rfl, rfl, rfl, hq⟩ := hrel
        have HQ0 := Lib.hid hq
        clear hq
        by_cases hlt : m < n2 + 1
        · have hmm : (m : Int) - 1 < (n2 : Int) := by omega
          obtain ⟨b0, hb0⟩ : ∃ b0, (preG ls a m).foldl (bestF (testPP ls a l ns)) (-1) = b0 := ⟨_, rfl⟩
          have HPRE := Lib.hid hb0
          rw [hb0]
          clear hb0
          go_wp2
          go_loopg [11, 13] ((grp ls a m).length) (fun g bv kv wr => ∃ k : Nat, k ≤ (grp ls a m).length ∧ g = (grp ls a m).length - k ∧ kv = .int .i64 k ∧ bv = .int .i64 (((grp ls a m).take k).foldl (bestF (testPP ls a l ns)) b0) ∧ ∃ q, wr = w1.drewN q)
          case atStart => exact ⟨0, by omega, rfl, rfl, rfl, HQ0.out⟩
          case round =>
            obtain ⟨k, hk, rfl, rfl, rfl, hq⟩ := hrel
            have HQ := Lib.hid hq
            clear hq
            by_cases hltk : k < (grp ls a m).length
            · have hkb : k < 1025 := by
                have h1 := grp_len (ls := ls) (a := a) (m := m)
                split at h1
                · omega
                · have := HST.out (m - 1) (by omega); omega
              have hstep0 : ((grp ls a m).take (k + 1)).foldl (bestF (testPP ls a l ns)) b0 = bestF (testPP ls a l ns) (((grp ls a m).take k).foldl (bestF (testPP ls a l ns)) b0) ((grp ls a m).getD k 0) := foldl_take _ _ _ 0 _ hltk
              obtain ⟨bb, hbb⟩ : ∃ bb, ((grp ls a m).take k).foldl (bestF (testPP ls a l ns)) b0 = bb := ⟨_, rfl⟩
              rw [hbb] at hstep0
              rw [hbb]
              clear hbb
              have hrange := preG_range h0 (fun j hj => (HCAN.out j hj).1) (m := m) (by rw [HR.out.len]; omega) hltk
              obtain ⟨t, ht⟩ : ∃ t, (grp ls a m).getD k 0 = t := ⟨_, rfl⟩
              rw [ht] at hstep0 hrange
              have HT := Lib.hid ht
              clear ht
              have hstep := Lib.hid hstep0
              clear hstep0
              have htr : 0 ≤ t ∧ t ≤ 4611686018427387904 := by omega
              clear hrange
              have hbf : Hid (bestF (testPP ls a l ns) bb t = if testPP ls a l ns t = true ∧ (bb < 0 ∨ t < bb) then t else bb) := Lib.hid rfl
              have HRi : Hid (RSS wr w1.heap.size A n2 ls) := Lib.hid (by obtain ⟨q, e⟩ := HQ.out; rw [e]; exact HR1.out.drewN q)
              have HRw : Hid (RSS wr wr.heap.size A n2 ls) := Lib.hid (by obtain ⟨q, e⟩ := HQ.out; rw [e]; exact HR1.out.drewN q)
              have HNi : Hid (RI wr wr.heap.size A2 n2 ns) := Lib.hid (by obtain ⟨q, e⟩ := HQ.out; rw [e]; exact HN1.out.drewN q)
              go_upto_region 13 with fail
              go_cut [79] (fun s wx => s = .bool true ∧ wx = wr)
              case first =>
                by_cases hm0 : m = 0
                · have hk1 : k < 1 := by
                    have h1 : (grp ls a m).length = 1 := by rw [grp_len, if_pos hm0]
                    omega
                  have hneg : (m : Int) - 1 < 0 := by omega
                  have hnegd : decide ((m : Int) - 1 < 0) = true := by simpa using hneg
                  clear hm0 hmm hltk
                  go_wp2
                  go_meet
                  exact ⟨rfl, rfl⟩
                · obtain ⟨b, off, A', mm, c', rfl, _, hc, hr', _, _, hmx⟩ := HRi.out.one (k := m - 1) (by omega)
                  have HR' := Lib.hid hr'
                  clear hr'
                  have hkm : k < mm := by rw [grp_len, if_neg hm0] at hltk; rw [← HR'.out.1]; exact hltk
                  have hpos : ¬ (m : Int) - 1 < 0 := by omega
                  have hposd : decide ((m : Int) - 1 < 0) = false := by simpa using hpos
                  have hpos2 : 0 ≤ (m : Int) - 1 := by omega
                  have hpos2d : decide (0 ≤ (m : Int) - 1) = true := by simpa using hpos2
                  have hmp : 0 < m := by omega
                  unfold maxLen at hmx
                  clear hltk
                  go_wp2
                  go_meet
                  exact ⟨rfl, rfl⟩
              case rest =>
              obtain ⟨rfl, hw⟩ := hcut
              subst hw
              go_upto_if 84 with fail
              go_cut [14] (fun s wx => s = .int .i64 t ∧ wx = wc)
              case first =>
                by_cases hm0 : m = 0
                · have e : Hid (t = a) := Lib.hid (by
                    have h1 : (grp ls a m).length = 1 := by rw [grp_len, if_pos hm0]
                    have hk0 : k = 0 := by omega
                    rw [← HT.out, hk0]
                    unfold grp
                    rw [if_pos hm0]
                    rfl)
                  have e1 := e.out
                  subst e1
                  clear e
                  have hneg2 : ¬ 0 ≤ (m : Int) - 1 := by omega
                  have hneg2d : decide (0 ≤ (m : Int) - 1) = false := by simpa using hneg2
                  clear hm0 hmm
                  go_wp2
                  go_meet
                  exact ⟨rfl, rfl⟩
                · obtain ⟨b, off, A', mm, c', rfl, _, hc, hr', _, _, hmx⟩ := HRi.out.one (k := m - 1) (by omega)
                  have HR' := Lib.hid hr'
                  clear hr'
                  have hkm : k < mm := by rw [grp_len, if_neg hm0] at hltk; rw [← HR'.out.1]; exact hltk
                  obtain ⟨b', off', rfl, _, hc1, _⟩ := HR'.out.cells hkm
                  have et : ((ls.getD (m - 1) []).getD k (0, 0)).1 = t := by
                    rw [← HT.out]
                    unfold grp
                    rw [if_neg hm0]
                    exact (map_getD _ _).symm
                  rw [et] at hc1
                  clear et
                  have hpos2 : 0 ≤ (m : Int) - 1 := by omega
                  have hpos2d : decide (0 ≤ (m : Int) - 1) = true := by simpa using hpos2
                  have hmp : 0 < m := by omega
                  unfold maxLen at hmx
                  clear hltk
                  go_wp2
                  go_meet
                  exact ⟨rfl, rfl⟩
              case rest =>
                obtain ⟨rfl, hw⟩ := hcut
                subst hw
                by_cases g1 : a ≤ t
                · by_cases g2 : t < 4611686018427387904
                  · by_cases g3 : bb < 0
                    · have HFC := Lib.hid (refFits_any _ n2 c _ n2 c2 ls t l ns wc HRw.out HNi.out (by omega) rfl HST.out ⟨by omega, by omega⟩ ⟨by omega, by omega⟩)
                      go_wp2_with fail
                      refine (HFC.out).mono ?_
                      rintro e w9 ⟨rfl, hq9⟩
                      have HQ9 : Hid (∃ q, w9 = w1.drewN q) := Lib.hid (by obtain ⟨q, e⟩ := HQ.out; obtain ⟨q', e'⟩ := hq9; exact ⟨_, by rw [e', e]; exact World.drewN_drewN _ _ _⟩)
                      clear hq9
                      cases hfit : fitsPP ls t l ns with
                      | false =>
                        have hno : Hid (((grp ls a m).take (k + 1)).foldl (bestF (testPP ls a l ns)) b0 = bb) := Lib.hid (by rw [hstep.out, hbf.out, if_neg (fun h => by have := h.1; unfold testPP at this; rw [hfit] at this; simp at this)])
                        clear hfit
                        go_wp2
                        go_roundg ((grp ls a m).length - (k + 1))
                        case measure => omega
                        case rel => exact ⟨k + 1, by omega, rfl, by go_num, by rw [hno.out], HQ9.out⟩
                      | true =>
                        have hyes : Hid (((grp ls a m).take (k + 1)).foldl (bestF (testPP ls a l ns)) b0 = t) := Lib.hid (by rw [hstep.out, hbf.out, if_pos ⟨by unfold testPP NEVER; rw [hfit, decide_eq_true ⟨g1, g2⟩]; rfl, .inl g3⟩])
                        clear hfit
                        go_wp2
                        go_roundg ((grp ls a m).length - (k + 1))
                        case measure => omega
                        case rel => exact ⟨k + 1, by omega, rfl, by go_num, by rw [hyes.out], HQ9.out⟩
                    · by_cases g4 : t < bb
                      · have g3d : decide (bb < 0) = false := by simpa using g3
                        have HFC := Lib.hid (refFits_any _ n2 c _ n2 c2 ls t l ns wc HRw.out HNi.out (by omega) rfl HST.out ⟨by omega, by omega⟩ ⟨by omega, by omega⟩)
                        go_wp2_with fail
                        refine (HFC.out).mono ?_
                        rintro e w9 ⟨rfl, hq9⟩
                        have HQ9 : Hid (∃ q, w9 = w1.drewN q) := Lib.hid (by obtain ⟨q, e⟩ := HQ.out; obtain ⟨q', e'⟩ := hq9; exact ⟨_, by rw [e', e]; exact World.drewN_drewN _ _ _⟩)
                        clear hq9
                        cases hfit : fitsPP ls t l ns with
                        | false =>
                          have hno : Hid (((grp ls a m).take (k + 1)).foldl (bestF (testPP ls a l ns)) b0 = bb) := Lib.hid (by rw [hstep.out, hbf.out, if_neg (fun h => by have := h.1; unfold testPP at this; rw [hfit] at this; simp at this)])
                          clear hfit
                          go_wp2
                          go_roundg ((grp ls a m).length - (k + 1))
                          case measure => omega
                          case rel => exact ⟨k + 1, by omega, rfl, by go_num, by rw [hno.out], HQ9.out⟩
                        | true =>
                          have hyes : Hid (((grp ls a m).take (k + 1)).foldl (bestF (testPP ls a l ns)) b0 = t) := Lib.hid (by rw [hstep.out, hbf.out, if_pos ⟨by unfold testPP NEVER; rw [hfit, decide_eq_true ⟨g1, g2⟩]; rfl, .inr g4⟩])
                          clear hfit
                          go_wp2
                          go_roundg ((grp ls a m).length - (k + 1))
                          case measure => omega
                          case rel => exact ⟨k + 1, by omega, rfl, by go_num, by rw [hyes.out], HQ9.out⟩
                      · have g3d : decide (bb < 0) = false := by simpa using g3
                        have g4d : decide (t < bb) = false := by simpa using g4
                        have hno : Hid (((grp ls a m).take (k + 1)).foldl (bestF (testPP ls a l ns)) b0 = bb) := Lib.hid (by rw [hstep.out, hbf.out, if_neg (fun h => h.2.elim g3 g4)])
                        go_wp2
                        go_roundg ((grp ls a m).length - (k + 1))
                        case measure => omega
                        case rel => exact ⟨k + 1, by omega, rfl, by go_num, by rw [hno.out], HQ.out⟩
                  · have g2d : decide (t < 4611686018427387904) = false := by simpa using g2
                    have hno : Hid (((grp ls a m).take (k + 1)).foldl (bestF (testPP ls a l ns)) b0 = bb) := Lib.hid (by rw [hstep.out, hbf.out, if_neg (fun h => by have := h.1; unfold testPP NEVER at this; rw [Bool.and_eq_true, decide_eq_true_eq] at this; exact g2 this.1.2)])
                    go_wp2
                    go_roundg ((grp ls a m).length - (k + 1))
                    case measure => omega
                    case rel => exact ⟨k + 1, by omega, rfl, by go_num, by rw [hno.out], HQ.out⟩
                · have g1d : decide (a ≤ t) = false := by simpa using g1
                  have hno : Hid (((grp ls a m).take (k + 1)).foldl (bestF (testPP ls a l ns)) b0 = bb) := Lib.hid (by rw [hstep.out, hbf.out, if_neg (fun h => by have := h.1; unfold testPP NEVER at this; rw [Bool.and_eq_true, decide_eq_true_eq] at this; exact g1 this.1.1)])
                  go_wp2
                  go_roundg ((grp ls a m).length - (k + 1))
                  case measure => omega
                  case rel => exact ⟨k + 1, by omega, rfl, by go_num, by rw [hno.out], HQ.out⟩
            · have hkl : k = (grp ls a m).length := by omega
              have hb1 : Hid (((grp ls a m).take k).foldl (bestF (testPP ls a l ns)) b0 = (preG ls a (m + 1)).foldl (bestF (testPP ls a l ns)) (-1)) := Lib.hid (by
                rw [hkl, List.take_length, preG_succ, List.foldl_append, HPRE.out])
              have HRi : Hid (RSS wr w1.heap.size A n2 ls) := Lib.hid (by obtain ⟨q, e⟩ := HQ.out; rw [e]; exact HR1.out.drewN q)
              go_upto_region 13 with fail
              go_cut [79] (fun s wx => s = .bool false ∧ wx = wr)
              case first =>
                by_cases hm0 : m = 0
                · have hk1 : ¬ k < 1 := by
                    have h1 : (grp ls a m).length = 1 := by rw [grp_len, if_pos hm0]
                    omega
                  have hk1d : decide ((k : Int) < 1) = false := by simp; omega
                  have hneg : (m : Int) - 1 < 0 := by omega
                  have hnegd : decide ((m : Int) - 1 < 0) = true := by simpa using hneg
                  have hneg2 : ¬ 0 ≤ (m : Int) - 1 := by omega
                  have hneg2d : decide (0 ≤ (m : Int) - 1) = false := by simpa using hneg2
                  clear hm0 hmm hltk hkl
                  go_wp2
                  go_meet
                  exact ⟨rfl, rfl⟩
                · obtain ⟨b, off, A', mm, c', rfl, _, hc, hr', _, _, hmx⟩ := HRi.out.one (k := m - 1) (by omega)
                  have HR' := Lib.hid hr'
                  clear hr'
                  have hkm : ¬ k < mm := by rw [grp_len, if_neg hm0] at hkl; rw [← HR'.out.1]; omega
                  have hkmd : decide (k < mm) = false := by simpa using hkm
                  have hpos : ¬ (m : Int) - 1 < 0 := by omega
                  have hposd : decide ((m : Int) - 1 < 0) = false := by simpa using hpos
                  have hpos2 : 0 ≤ (m : Int) - 1 := by omega
                  have hpos2d : decide (0 ≤ (m : Int) - 1) = true := by simpa using hpos2
                  have hmp : 0 < m := by omega
                  unfold maxLen at hmx
                  clear hltk hkl
                  go_wp2
                  go_meet
                  exact ⟨rfl, rfl⟩
              case rest =>
              obtain ⟨rfl, hw⟩ := hcut
              subst hw
              go_wp2
              go_roundg (n2 + 1 - (m + 1))
              case measure => omega
              case rel => exact ⟨m + 1, by omega, rfl, by go_num, by rw [hb1.out], HQ.out⟩
        · have hmn : m = n2 + 1 := by omega
          have hd : decide ((m : Int) - 1 < (n2 : Int)) = false := by simp; omega
          have hd2 : ¬ (m : Int) - 1 < (n2 : Int) := by omega
          have HF2 : Hid (r = if (preG ls a m).foldl (bestF (testPP ls a l ns)) (-1) < 0 then (0, false) else ((preG ls a m).foldl (bestF (testPP ls a l ns)) (-1), true)) := Lib.hid (by rw [hmn]; have := HFI.out; rw [HR.out.len] at this; exact this)
          have HBB : Hid (Below w.heap.size w wr) := Lib.hid (by obtain ⟨q, e⟩ := HQ0.out; rw [e]; exact HB1.out.trans ((bel_drew w1 q).mono HB1.out.size))
          clear HFI hmn
          generalize (preG ls a m).foldl (bestF (testPP ls a l ns)) (-1) = bb at *
          by_cases hb0 : bb < 0
          · have hz : r = (0, false) := by rw [HF2.out, if_pos hb0]
            subst hz
            clear HF2 HRES
            go_wp2
            go_ret2
            exact ⟨rfl, HBB.out⟩
          · have hz : r = (bb, true) := by rw [HF2.out, if_neg hb0]
            subst hz
            clear HF2 HRES
            have hd3 : decide (bb < 0) = false := by simpa using hb0
            go_wp2
            go_ret2
            exact ⟨rfl, HBB.out⟩

set_option maxRecDepth 100000 in
set_option maxHeartbeats 2000000 in
/-- First, of whatever was asked -/
theorem refFirstPP_any (A : Option Addr) (n c : Nat) (A2 : Option Addr) (n2 c2 : Nat) (ls : List (List (Int × Int))) (a l : Int) (ns : List Int) (w : World)
    (hr : RSS w w.heap.size A n ls) (hr2 : RI w w.heap.size A2 n2 ns) (hn : n ≤ maxLen) (hl : I64 l) :
    Calls Try.prog 23 #[.slice A n c, .int .i64 a, .int .i64 l, .slice A2 n2 c2] w fun e w' => e = .returned (.tuple #[.int .i64 (firstPP ls a l ns).1, .bool (firstPP ls a l ns).2]) ∧ Below w.heap.size w w' := by
  cases hrp : rightPP ls with
  | false =>
    rw [goodPP_no (fun h => by rw [hrp] at h; cases h.1)]
    have HRP := Lib.hid hrp
    clear hrp
    go_enter Try.func23, Try.ntmps23
    go_wp2_with fail
    refine (refRightPP_any _ _ _ ls _ hr hn).mono ?_
    rintro e w1 ⟨rfl, hb⟩
    rw [HRP.out]
    go_wp2
    go_ret2
    exact ⟨rfl, hb⟩
  | true =>
    by_cases hnn : n2 = n
    · by_cases h0 : 0 ≤ a
      · by_cases h1 : a < 4611686018427387904
        · by_cases h2 : 1 ≤ l
          · exact refFirstPP_len A n c A2 n2 c2 ls a l ns w hr hr2 hn hrp hnn h0 h1 h2 hl.2
          · rw [goodPP_no (fun h => h2 h.2.2.2.2.1)]
            subst hnn
            unfold maxLen at hn
            have HN := Lib.hid hn
            have HRP := Lib.hid hrp
            have hd0 : decide (a < 0) = false := by simp; omega
            have hd1 : decide (4611686018427387904 ≤ a) = false := by simp; omega
            have hd2 : decide (l < 1) = true := by simp; omega
            clear hrp
            go_enter Try.func23, Try.ntmps23
            go_wp2_with fail
            refine (refRightPP_any _ _ _ ls _ hr (by unfold maxLen; exact HN.out)).mono ?_
            rintro e w1 ⟨rfl, hb⟩
            rw [HRP.out]
            go_wp2
            go_ret2
            exact ⟨rfl, hb⟩
        · rw [goodPP_no (fun h => h1 h.2.2.2.1)]
          subst hnn
          unfold maxLen at hn
          have HN := Lib.hid hn
          have HRP := Lib.hid hrp
          have hd0 : decide (a < 0) = false := by simp; omega
          have hd1 : decide (4611686018427387904 ≤ a) = true := by simp; omega
          clear hrp
          go_enter Try.func23, Try.ntmps23
          go_wp2_with fail
          refine (refRightPP_any _ _ _ ls _ hr (by unfold maxLen; exact HN.out)).mono ?_
          rintro e w1 ⟨rfl, hb⟩
          rw [HRP.out]
          go_wp2
          go_ret2
          exact ⟨rfl, hb⟩
      · rw [goodPP_no (fun h => h0 h.2.2.1)]
        subst hnn
        unfold maxLen at hn
        have HN := Lib.hid hn
        have HRP := Lib.hid hrp
        have hd0 : decide (a < 0) = true := by simp; omega
        clear hrp
        go_enter Try.func23, Try.ntmps23
        go_wp2_with fail
        refine (refRightPP_any _ _ _ ls _ hr (by unfold maxLen; exact HN.out)).mono ?_
        rintro e w1 ⟨rfl, hb⟩
        rw [HRP.out]
        go_wp2
        go_ret2
        exact ⟨rfl, hb⟩
    · rw [goodPP_no (fun h => hnn (by have := h.2.1; rw [hr2.1, hr.len] at this; exact this))]
      have hne : ((n2 : Int) != (n : Int)) = true := by simp; omega
      unfold maxLen at hn
      have HN := Lib.hid hn
      have HRP := Lib.hid hrp
      clear hrp
      go_enter Try.func23, Try.ntmps23
      go_wp2_with fail
      refine (refRightPP_any _ _ _ ls _ hr (by unfold maxLen; exact HN.out)).mono ?_
      rintro e w1 ⟨rfl, hb⟩
      rw [HRP.out]
      go_wp2
      go_ret2
      exact ⟨rfl, hb⟩

end Go.Proofs.Ytkhnlbkghjjdnaa
