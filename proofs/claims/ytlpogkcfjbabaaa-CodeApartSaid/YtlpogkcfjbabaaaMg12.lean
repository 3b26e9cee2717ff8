/- The program's reader: sets. -/
import Derived.Test.YtlpogkcfjbabaaaMg11
namespace Go.Proofs.Ytlpogkcfjbabaaa
open Go.RowKit

def VSet (_ w' : World) (l : List Int) (v : Value) : Prop := ∃ A c, v = .slice A l.length c ∧ RI w' w'.heap.size A l.length l ∧ (A = none → c = 0) ∧ l.length ≤ c
/-- what stands behind a set's kind -/
def setBodyQ : Rd (List Int) := bindR numQ fun n => bindR (chkR (n ≤ 256)) fun _ => runsQ n true 0
theorem setQ_eq : setQ = bindR byteR fun c => bindR (chkR (c = 2)) fun _ => setBodyQ := rfl
theorem runN_len (f m : Nat) : (runN f m).length = m + 1 := by unfold runN; simp
theorem runN_take {f m q : Nat} (h : q ≤ m) : (runN f m).take (q + 1) = (runN f m).take q ++ [((f + q : Nat) : Int)] := by
  rw [List.take_add_one]
  congr 1
  unfold runN
  rw [List.getElem?_map, List.getElem?_range (by omega)]
  rfl
/-- the runs that are left, behind those numbers -/
def leftQ (N : Nat) (first : Bool) (last : Nat) (xs : List Int) : Rd (List Int) := bindR (runsQ N first last) fun r => retR (xs ++ r)
theorem leftQ_zero (first : Bool) (last : Nat) (xs : List Int) (b : Bs) : leftQ 0 first last xs b = .ok (xs, b) := by
  unfold leftQ runsQ bindR retR
  simp
theorem leftQ_succ (k : Nat) (first : Bool) (last : Nat) (xs : List Int) : leftQ (k + 1) first last xs = bindR numQ fun far => bindR numQ fun more => bindR (chkR (far ≤ 255 ∧ more ≤ 255 ∧ last + far + more ≤ 255 ∧ (first = true ∨ 2 ≤ far))) fun _ =>
    leftQ k false (last + far + more) (xs ++ runN (last + far) more) := by
  unfold leftQ
  rw [runsQ]
  simp only [bindR_assoc]
  congr 1; funext far; congr 1; funext more; congr 1; funext _; congr 1; funext r
  funext b
  unfold bindR retR
  simp [List.append_assoc]

set_option maxRecDepth 100000 in
set_option maxHeartbeats 16000000 in
theorem setBody_any (g : Nat) (A : Option Addr) (n c k : Nat) (bs : Bs) (w : World) (h : Rdr w g A n c k bs) :
    Calls Try.prog 52 #[.pointer (some ⟨g, 0, none⟩)] w (RdP VSet g A n c k bs (setBodyQ (bs.drop k)) w) := by
  have HN := Lib.hid (number_any g A n c k bs w h)
  clear h
  rcases hr : numQ (bs.drop k) with er | ⟨N, t⟩
  · have HC := Lib.hid (rdp_err HN.out hr)
    have hq : Hid (setBodyQ (bs.drop k) = .error er) := Lib.hid (bindR_err hr)
    clear HN hr
    go_enter Try.func52, Try.ntmps52
    go_wp2_with fail
    refine HC.out.mono ?_
    rintro e w1 ⟨rfl, hb⟩
    have HB := Lib.hid hb
    clear hb
    go_wp2_with fail
    exact ⟨rfl, rdp_err_mk hq.out HB.out⟩
  · have HC := Lib.hid (calls_num (rdp_ok HN.out hr))
    have hq : Hid (setBodyQ (bs.drop k) = bindR (chkR (N ≤ 256)) (fun _ => runsQ N true 0) t) := Lib.hid (bindR_at hr)
    have hx := (num_backQ hr).2
    clear HN hr
    by_cases hle : N ≤ 256
    · obtain ⟨R, hR⟩ : ∃ R, setBodyQ (bs.drop k) = R := ⟨_, rfl⟩
      have hq2 : Hid (leftQ N true 0 [] t = R) := Lib.hid (by
        rw [← hR, hq.out, bindR_at (chk_ok hle)]
        unfold leftQ bindR retR
        cases runsQ N true 0 t with
        | error e => rfl
        | ok r => simp)
      have hd : decide ((N : Int) ≤ 256) = true := by simp; omega
      rw [hR]
      clear hq hR
      go_enter Try.func52, Try.ntmps52
      go_wp2_with fail
      refine HC.out.mono ?_
      rintro e w1 ⟨rfl, k1, hk, ht, hrd, hb⟩
      have HB := Lib.hid hb
      have HRD := Lib.hid hrd
      have hq3 : Hid (leftQ N true 0 [] (bs.drop k1) = R) := Lib.hid (by rw [← ht]; exact hq2.out)
      have HK := Lib.hid hk
      clear hb hrd ht hq2 hk
      go_wp2_with fail
      refine (need_yes rfl).mono ?_
      rintro e w2 ⟨rfl, rfl⟩
      go_wp2_with fail
      go_loopw [18, 4, 5] (fun i v la wr => ∃ (j last kk : Nat) (xs : List Int), j ≤ N ∧ i = .int .i64 (j : Int) ∧ la = .int .i64 (last : Int) ∧ last ≤ 255 ∧ xs.length ≤ last + 1 ∧ (j = 0 → xs = [] ∧ last = 0) ∧ k ≤ kk ∧ OG EI 1 3 w2.heap.size v xs wr ∧ Rdr wr g A n c kk bs ∧ But g w wr ∧ leftQ (N - j) (decide (j = 0)) last xs (bs.drop kk) = R) (fun i _ _ _ => N - (intOf i).toNat)
      case atStart => exact ⟨0, 0, k1, [], by omega, rfl, rfl, by omega, by simp, fun _ => ⟨rfl, rfl⟩, HK.out, OG.nil (Nat.le_refl _), HRD.out, HB.out, hq3.out⟩
      case round =>
        obtain ⟨j, last, kk, xs, hj, rfl, rfl, hl255, hxl, hj0, hkk, hog, hrd, hbut, hlq⟩ := hrel
        have HO := Lib.hid hog
        have HR1 := Lib.hid hrd
        have HBU := Lib.hid hbut
        have HKK := Lib.hid hkk
        have HJ0 := Lib.hid hj0
        have HXL := Lib.hid hxl
        have hgs : Hid (g < w2.heap.size) := Lib.hid HRD.out.lt
        have HLQ := Lib.hid hlq
        clear hog hrd hbut hkk hj0 hlq hxl
        by_cases hjx : j < N
        · have hjd : decide ((j : Int) < (N : Int)) = true := by simp; omega
          have hjd2 : decide (j < N) = true := by simp; omega
          obtain ⟨M, hM⟩ : ∃ M, N - j = M + 1 := ⟨N - j - 1, by omega⟩
          have HL1 : Hid (bindR numQ (fun far => bindR numQ fun more => bindR (chkR (far ≤ 255 ∧ more ≤ 255 ∧ last + far + more ≤ 255 ∧ (decide (j = 0) = true ∨ 2 ≤ far))) fun _ =>
            leftQ M false (last + far + more) (xs ++ runN (last + far) more)) (bs.drop kk) = R) := Lib.hid (by rw [← leftQ_succ, ← hM]; exact HLQ.out)
          have HM : Hid (N - (j + 1) = M) := Lib.hid (by omega)
          clear HLQ hM
          rcases hr1 : numQ (bs.drop kk) with er | ⟨far, t1⟩
          · have hge : Hid (R = .error er) := Lib.hid (by rw [← HL1.out]; exact bindR_err hr1)
            have HN := Lib.hid (rdp_err (number_any g A n c _ bs wr HR1.out) hr1)
            clear hr1
            go_wp2_with fail
            refine HN.out.mono ?_
            rintro e w3 ⟨rfl, hb⟩
            have HB2 := Lib.hid hb
            clear hb
            go_wp2_with fail
            exact ⟨rfl, rdp_err_mk hge.out (HBU.out.trans HB2.out)⟩
          · have HN := Lib.hid (calls_num (rdp_ok (number_any g A n c _ bs wr HR1.out) hr1))
            have hfar := (num_backQ hr1).2
            have HL2 : Hid (bindR numQ (fun more => bindR (chkR (far ≤ 255 ∧ more ≤ 255 ∧ last + far + more ≤ 255 ∧ (decide (j = 0) = true ∨ 2 ≤ far))) fun _ =>
              leftQ M false (last + far + more) (xs ++ runN (last + far) more)) t1 = R) := Lib.hid (by rw [← HL1.out, bindR_at hr1])
            clear hr1 HL1
            go_wp2_with fail
            refine HN.out.mono ?_
            rintro e w3 ⟨rfl, k2, hk2, rfl, hrd3, hb3⟩
            have HR3 := Lib.hid hrd3
            have HO3 := Lib.hid (HO.out.but ei_steady (above_ei _) hb3 hgs.out)
            have HB3 := Lib.hid (HBU.out.trans hb3)
            have HK2 := Lib.hid (Nat.le_trans HKK.out hk2)
            clear hrd3 hb3 hk2 HN HO HR1 HBU HKK
            rcases hr2 : numQ (bs.drop k2) with er | ⟨more, t2⟩
            · have hge : Hid (R = .error er) := Lib.hid (by rw [← HL2.out]; exact bindR_err hr2)
              have HN := Lib.hid (rdp_err (number_any g A n c _ bs w3 HR3.out) hr2)
              clear hr2
              go_wp2_with fail
              refine HN.out.mono ?_
              rintro e w4 ⟨rfl, hb⟩
              have HB2 := Lib.hid hb
              clear hb
              go_wp2_with fail
              exact ⟨rfl, rdp_err_mk hge.out (HB3.out.trans HB2.out)⟩
            · have HN := Lib.hid (calls_num (rdp_ok (number_any g A n c _ bs w3 HR3.out) hr2))
              have hmore := (num_backQ hr2).2
              have HL3 : Hid (bindR (chkR (far ≤ 255 ∧ more ≤ 255 ∧ last + far + more ≤ 255 ∧ (decide (j = 0) = true ∨ 2 ≤ far))) (fun _ =>
                leftQ M false (last + far + more) (xs ++ runN (last + far) more)) t2 = R) := Lib.hid (by rw [← HL2.out, bindR_at hr2])
              clear hr2 HL2
              by_cases hP : far ≤ 255 ∧ more ≤ 255 ∧ last + far + more ≤ 255 ∧ (decide (j = 0) = true ∨ 2 ≤ far)
              · have HL4 : Hid (leftQ M false (last + far + more) (xs ++ runN (last + far) more) t2 = R) := Lib.hid (by rw [← HL3.out, bindR_at (chk_ok hP)])
                have hcase : ((j : Int) == 0) = true ∨ (((j : Int) == 0) = false ∧ decide ((1 : Int) < (far : Int)) = true) := by
                  rcases hP.2.2.2 with h | h
                  · left; simp at h; simp; omega
                  · by_cases h0 : j = 0
                    · left; simp; omega
                    · right; exact ⟨by simp; omega, by simp; omega⟩
                have hle2 : decide ((more : Int) ≤ 255 - (last : Int) - (far : Int)) = true := by simp; omega
                have hsum : last + far + more ≤ 255 := hP.2.2.1
                have hfar1 : j = 0 ∨ 2 ≤ far := by
                  rcases hP.2.2.2 with h | h
                  · left; simpa using h
                  · exact .inr h
                have HF1 := Lib.hid hfar1
                clear hP hfar1 HL3
                rcases hcase with hc1 | ⟨hc1, hc2⟩
                all_goals
                  go_wp2_with fail
                  refine HN.out.mono ?_
                  rintro e w4 ⟨rfl, k3, hk3, ht3, hrd4, hb4⟩
                  have HR4 := Lib.hid hrd4
                  have HO4 := Lib.hid (HO3.out.but ei_steady (above_ei _) hb4 hgs.out)
                  have HB4 := Lib.hid (HB3.out.trans hb4)
                  have HK3 := Lib.hid (Nat.le_trans HK2.out hk3)
                  have HT3 := Lib.hid ht3
                  clear hrd4 hb4 hk3 ht3
                  go_wp2_with fail
                  refine (need_yes rfl).mono ?_
                  rintro e w5 ⟨rfl, rfl⟩
                  clear hc1
                  go_wp2_with fail
                  go_loopw [10, 4] (fun x v wr' => ∃ (q : Nat), q ≤ more + 1 ∧ x = .int .i64 ((last + far + q : Nat) : Int) ∧ OG EI 1 3 w2.heap.size v (xs ++ (runN (last + far) more).take q) wr' ∧ Rdr wr' g A n c k3 bs ∧ But g w wr') (fun x _ _ => (last + far + more + 1) - (intOf x).toNat)
                  case atStart => exact ⟨0, by omega, by go_num, by simpa using HO4.out, HR4.out, HB4.out⟩
                  case round =>
                    obtain ⟨q, hq, rfl, hog, hrd, hbut⟩ := hrel
                    have HO5 := Lib.hid hog
                    have HR5 := Lib.hid hrd
                    have HB5 := Lib.hid hbut
                    clear hog hrd hbut
                    by_cases hqm : q ≤ more
                    · have hA1 : decide (((last + far + q : Nat) : Int) ≤ (last : Int) + (far : Int) + (more : Int)) = true := by simp; omega
                      have hA2 : decide ((last : Int) + (far : Int) + (q : Int) ≤ (last : Int) + (far : Int) + (more : Int)) = true := by simp; omega
                      have hA3 : decide (q ≤ more) = true := by simp; omega
                      have hlen : (xs ++ (runN (last + far) more).take q).length ≤ 2000 := by
                        have := HXL.out
                        rw [List.length_append, List.length_take, runN_len]
                        omega
                      obtain ⟨i0, hi0, hz0, hz1, hz2⟩ := info_parts int_info
                      go_wp2_with (refine wpList_append_OG rfl _ _ 24 rfl ei_steady HO5.out i0 (.int .i64 0) 8 Try.underlying24 hi0 hz0 hz1 hz2 rfl (by decide) rfl ((last + far + q : Nat) : Int) #[.int .i64 ((last + far + q : Nat) : Int)] rfl rfl (by intro u hu; simp at hu; subst hu; rfl) rfl (by unfold maxLen; omega) (by omega) ?_; intro v' w6 hog6 hbel6; refine Hid.out ?_)
                      refine Lib.hid ?_
                      have HO6 := Lib.hid hog6
                      have HB6 := Lib.hid hbel6
                      clear hog6 hbel6 hA1 hA2 hA3
                      go_wp2_with fail
                      refine ⟨⟨q + 1, by omega, by go_num, ?_, HR5.out.low HB6.out hgs.out, HB5.out.low HB6.out HB.out.size⟩, by simp [intOf]; omega⟩
                      rw [runN_take hqm, ← List.append_assoc]
                      exact HO6.out
                    · have hA1 : decide (((last + far + q : Nat) : Int) ≤ (last : Int) + (far : Int) + (more : Int)) = false := by simp; omega
                      have hA2 : decide ((last : Int) + (far : Int) + (q : Int) ≤ (last : Int) + (far : Int) + (more : Int)) = false := by simp; omega
                      have hA3 : decide (q ≤ more) = false := by simp; omega
                      have hqe : Hid ((runN (last + far) more).take q = runN (last + far) more) := Lib.hid (List.take_of_length_le (by rw [runN_len]; omega))
                      have hst : Hid (last + far + more ≤ 255 ∧ (xs ++ runN (last + far) more).length ≤ last + far + more + 1 ∧ (j + 1 = 0 → (xs ++ runN (last + far) more) = [] ∧ last + far + more = 0)) := Lib.hid ⟨hsum, by
                        rw [List.length_append, runN_len]
                        have h1 := HXL.out
                        rcases HF1.out with h | h
                        · have := (HJ0.out h).1
                          rw [this, List.length_nil]; omega
                        · omega, fun h => by omega⟩
                      have hlast : Hid (leftQ (N - (j + 1)) (decide (j + 1 = 0)) (last + far + more) (xs ++ runN (last + far) more) (bs.drop k3) = R) := Lib.hid (by
                        rw [HM.out, ← HT3.out, ← HL4.out]
                        simp)
                      have HO6 : Hid (OG EI 1 3 w2.heap.size u4 (xs ++ runN (last + far) more) wr) := Lib.hid (by have := HO5.out; rwa [hqe.out] at this)
                      clear hqm
                      go_wp2_with fail
                      exact ⟨⟨j + 1, last + far + more, k3, _, by omega, by go_num, by go_num, hst.out.1, hst.out.2.1, hst.out.2.2, HK3.out, HO6.out, HR5.out, HB5.out, hlast.out⟩, by simp [intOf]; omega⟩
              · have hge : Hid (R = .error 3) := Lib.hid (by rw [← HL3.out]; exact bindR_err (by unfold chkR; rw [if_neg hP]))
                have hcase : (((j : Int) == 0) = false ∧ decide ((1 : Int) < (far : Int)) = false) ∨ (((j : Int) == 0) = false ∧ decide ((1 : Int) < (far : Int)) = true ∧ decide ((more : Int) ≤ 255 - (last : Int) - (far : Int)) = false) ∨ (((j : Int) == 0) = true ∧ decide ((more : Int) ≤ 255 - (last : Int) - (far : Int)) = false) := by
                  simp only [decide_eq_true_eq] at hP
                  by_cases h0 : j = 0
                  · right; right; exact ⟨by simp; omega, by simp; omega⟩
                  · by_cases h1 : 1 < far
                    · right; left; exact ⟨by simp; omega, by simp; omega, by simp; omega⟩
                    · left; exact ⟨by simp; omega, by simp; omega⟩
                clear hP HL3
                rcases hcase with ⟨hc1, hc2⟩ | ⟨hc1, hc2, hc3⟩ | ⟨hc1, hc3⟩
                all_goals
                  go_wp2_with fail
                  refine HN.out.mono ?_
                  rintro e w4 ⟨rfl, k3, hk3, ht3, hrd4, hb4⟩
                  have HB4 := Lib.hid (HB3.out.trans hb4)
                  clear hrd4 hb4 hk3 ht3
                  go_wp2_with fail
                  refine (need_no rfl).mono ?_
                  rintro e w5 ⟨rfl, rfl⟩
                  go_wp2_with fail
                  exact ⟨rfl, rdp_err_mk hge.out HB4.out⟩
        · have hjd : decide ((j : Int) < (N : Int)) = false := by simp; omega
          have hjd2 : decide (j < N) = false := by simp; omega
          have hend : Hid (R = .ok (xs, bs.drop kk)) := Lib.hid (by
            rw [← HLQ.out, show N - j = 0 by omega]
            exact leftQ_zero _ _ _ _)
          go_wp2_with fail
          go_ret
          obtain ⟨A2, c2, rfl, hn2, hc2⟩ := HO.out.on.form
          exact rdp_ok_mk hend.out ⟨A2, c2, rfl, (HO.out.on.reads ei_steady (by omega) rfl).ri, hn2, hc2⟩ HKK.out rfl HR1.out HBU.out
    · have hq2 : Hid (setBodyQ (bs.drop k) = .error 3) := Lib.hid (by rw [hq.out]; exact bindR_err (by unfold chkR; rw [if_neg hle]))
      have hd : decide ((N : Int) ≤ 256) = false := by simp; omega
      clear hq
      go_enter Try.func52, Try.ntmps52
      go_wp2_with fail
      refine HC.out.mono ?_
      rintro e w1 ⟨rfl, k1, hk, ht, hrd, hb⟩
      have HB := Lib.hid hb
      clear hb hrd ht
      go_wp2_with fail
      refine (need_no rfl).mono ?_
      rintro e w2 ⟨rfl, rfl⟩
      go_wp2_with fail
      exact ⟨rfl, rdp_err_mk hq2.out HB.out⟩

end Go.Proofs.Ytlpogkcfjbabaaa
