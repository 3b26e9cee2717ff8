/- The reference's set of layer 8 (bailiwickref08): a set read from bytes: what it answers. -/
import Derived.Test.YtlpogkcfjbabaaaMg24
import Derived.Test.YtlpogkcfjbabaaaMg04
namespace Go.Proofs.Ytlpogkcfjbabaaa
open Go.RowKit

def addR (L : List Int) : Except Nat (List Int × Bs) → Except Nat (List Int × Bs)
  | .ok (l, t) => .ok (L ++ l, t)
  | .error e => .error e
theorem addR_nil (r : Except Nat (List Int × Bs)) : addR [] r = r := by cases r <;> rfl
theorem addR_add (L M : List Int) (r : Except Nat (List Int × Bs)) : addR L (addR M r) = addR (L ++ M) r := by
  cases r with
  | error e => rfl
  | ok x => obtain ⟨l, t⟩ := x; show Except.ok (L ++ (M ++ l), t) = Except.ok ((L ++ M) ++ l, t); rw [List.append_assoc]
theorem runsR_zero (first : Bool) (last : Nat) (b : Bs) : runsR 0 first last b = .ok ([], b) := rfl
theorem runsR_far {k : Nat} {first : Bool} {last e : Nat} {b : Bs} (h : numR b = .error e) : runsR (k + 1) first last b = .error e := by
  unfold runsR; exact bindR_err h
theorem runsR_more {k : Nat} {first : Bool} {last far e : Nat} {b t1 : Bs} (h : numR b = .ok (far, t1)) (h2 : numR t1 = .error e) : runsR (k + 1) first last b = .error e := by
  unfold runsR; rw [bindR_at h]; exact bindR_err h2
theorem runsR_bad {k : Nat} {first : Bool} {last far more : Nat} {b t1 t2 : Bs} (h : numR b = .ok (far, t1)) (h2 : numR t1 = .ok (more, t2)) (hc : ¬ (far ≤ 255 ∧ more ≤ 255 ∧ last + far + more ≤ 255 ∧ (first = true ∨ 2 ≤ far))) : runsR (k + 1) first last b = .error 3 := by
  unfold runsR
  rw [bindR_at h, bindR_at h2]
  exact bindR_err (by unfold chkR; rw [if_neg hc])
theorem runsR_good {k : Nat} {first : Bool} {last far more : Nat} {b t1 t2 : Bs} (h : numR b = .ok (far, t1)) (h2 : numR t1 = .ok (more, t2)) (hc : far ≤ 255 ∧ more ≤ 255 ∧ last + far + more ≤ 255 ∧ (first = true ∨ 2 ≤ far)) :
    runsR (k + 1) first last b = addR (runN (last + far) more) (runsR k false (last + far + more) t2) := by
  show bindR numR _ b = _
  rw [bindR_at h, bindR_at h2, bindR_at (chk_ok hc)]
  cases hr : runsR k false (last + far + more) t2 with
  | error e => rw [bindR_err hr]; rfl
  | ok x => obtain ⟨l, t⟩ := x; rw [bindR_at hr]; rfl
/-- the result of the reading: numbers, what is left, the error's number -/
def SOk (l : List Int) (t : Bs) (B : Nat) (w : World) (e : Ending) (w' : World) : Prop :=
  (∃ A c A2 c2, e = .returned (.tuple #[.slice A l.length c, .slice A2 t.length c2, .int .i64 0]) ∧ RI w' w'.heap.size A l.length l ∧ (A = none → c = 0) ∧ l.length ≤ c ∧ BAsk w' B A2 t.length c2 t) ∧ Below w.heap.size w w'
def SErr (er : Nat) (w : World) (e : Ending) (w' : World) : Prop := e = .returned (.tuple #[.slice none 0 0, .slice none 0 0, .int .i64 (er : Int)]) ∧ Below w.heap.size w w'
def SPost (r : Except Nat (List Int × Bs)) (B : Nat) (w : World) (e : Ending) (w' : World) : Prop := match r with
  | .ok (l, t) => SOk l t B w e w'
  | .error er => SErr er w e w'
theorem serr_mk {er B : Nat} {w w' : World} {r : Except Nat (List Int × Bs)} (h : r = .error er) (hb : Below w.heap.size w w') : SPost r B w (.returned (.tuple #[.slice none 0 0, .slice none 0 0, .int .i64 (er : Int)])) w' := by
  rw [h]; exact ⟨rfl, hb⟩
theorem setR_nil : setR [] = .error 2 := rfl
theorem setR_other {c : UInt8} {s : Bs} (h : c ≠ 2) : setR (c :: s) = .error 3 := by
  unfold setR
  rw [bindR_at (x := c) (t := s) rfl]
  exact bindR_err (by unfold chkR; rw [if_neg h])
theorem setR_num {s : Bs} {e : Nat} (h : numR s = .error e) : setR (2 :: s) = .error e := by
  unfold setR
  rw [bindR_at (x := 2) (t := s) rfl, bindR_at (chk_ok rfl)]
  exact bindR_err h
theorem setR_many {s t : Bs} {n : Nat} (h : numR s = .ok (n, t)) : setR (2 :: s) = if n ≤ 256 then runsR n true 0 t else .error 3 := by
  unfold setR
  rw [bindR_at (x := 2) (t := s) rfl, bindR_at (chk_ok rfl), bindR_at h]
  split
  · rename_i hn; exact bindR_at (chk_ok hn)
  · rename_i hn; exact bindR_err (by unfold chkR; rw [if_neg hn])

set_option maxRecDepth 100000 in
set_option maxHeartbeats 8000000 in
theorem refSet_any (A : Option Addr) (n c : Nat) (bs : Bs) (B : Nat) (w : World) (h : BAsk w B A n c bs) (hB : B ≤ w.heap.size) :
    Calls Try.prog 55 #[.slice A n c] w (SPost (setR bs) B w) := by
  obtain ⟨i0, hi0, hz0, hz1, hz2⟩ := info_parts int_info
  have H := Lib.hid h
  have HL := Lib.hid h.reads.len
  have HBW := Lib.hid hB
  have hn := h.few
  unfold maxLen at hn
  clear h hB
  obtain ⟨R, hR⟩ : ∃ R, setR bs = R := ⟨_, rfl⟩
  have HR := Lib.hid hR
  rw [hR]
  clear hR
  by_cases hn0 : n = 0
  · have e0 : Hid (R = .error 2) := Lib.hid (by rw [← HR.out, show bs = [] from List.eq_nil_of_length_eq_zero (by rw [HL.out]; exact hn0)]; rfl)
    subst hn0
    go_enter Try.func55, Try.ntmps55
    go_wp2
    go_ret3
    exact serr_mk e0.out (Below.refl _ _)
  · have hnd : ((n : Int) == 0) = false := by simp; omega
    have hnp : 0 < n := by omega
    obtain ⟨b, off, rfl, hb, hc⟩ := H.out.reads.one hnp
    simp only [Nat.add_zero] at hc
    obtain ⟨x, s, hxs⟩ : ∃ x s, bs = x :: s := by
      cases bs with
      | nil => have := HL.out; simp at this; omega
      | cons x s => exact ⟨x, s, rfl⟩
    subst hxs
    obtain ⟨y, hy⟩ : ∃ y, x.toNat = y := ⟨_, rfl⟩
    have HY := Lib.hid hy
    rw [show (x :: s).getD 0 0 = x from rfl, hy] at hc
    clear hy hn0
    by_cases hy2 : y = 2
    · obtain rfl : x = 2 := by rw [← toNat_ofNat8 x, HY.out, hy2]; rfl
      subst hy2
      obtain ⟨A1, hA1, hcut⟩ := H.out.cutN (k := 1) (by omega)
      have HC1 : Hid (BAsk w B A1 (n - 1) (c - 1) s) := Lib.hid hcut
      have hcapn := H.out.cap
      clear hcut
      cases hm : numR s with
      | error er =>
        have e0 : Hid (R = .error er) := Lib.hid (by rw [← HR.out, setR_num hm])
        have HM := Lib.hid hm
        have her : Hid (er ≠ 0) := Lib.hid (nn_num _ _ hm)
        have herd : ((er : Int) != 0) = true := by simp; exact her.out
        clear hm
        go_enter Try.func55, Try.ntmps55
        go_wp2_with fail
        refine (refGot_err HC1.out HM.out).mono ?_
        rintro e w1 ⟨rfl, hb1⟩
        have HB1 := Lib.hid hb1
        clear hb1
        go_wp2
        go_ret3
        exact serr_mk e0.out HB1.out
      | ok r =>
        obtain ⟨many, t0⟩ := r
        have HM := Lib.hid hm
        have hmany := (num_back hm).2
        have HRM : Hid (R = if many ≤ 256 then runsR many true 0 t0 else .error 3) := Lib.hid (by rw [← HR.out, setR_many hm])
        clear hm
        by_cases h256 : many ≤ 256
        · have HR2 : Hid (runsR many true 0 t0 = R) := Lib.hid (by rw [HRM.out, if_pos h256])
          have h256d : decide ((256 : Int) < (many : Int)) = false := by simp; omega
          go_enter Try.func55, Try.ntmps55
          go_wp2_with fail
          refine (refGot_ok HC1.out HM.out).mono ?_
          rintro e w1 ⟨⟨At, ct, rfl, ht0⟩, hb1⟩
          have HB1 := Lib.hid hb1
          have HT0 := Lib.hid ht0
          have HBW1 : Hid (B ≤ w1.heap.size) := Lib.hid (Nat.le_trans HBW.out hb1.size)
          clear hb1 ht0 hA1
          generalize hm0 : t0.length = m0
          have HL0 : Hid (BAsk w1 B At m0 ct t0) := Lib.hid (by have := HT0.out; rwa [hm0] at this)
          clear hm0 HT0
          go_wp2
          go_loopw [0, 7, 8, 9] (fun sb so sl si wr => ∃ (k lst m cc : Nat) (Ab : Option Addr) (L : List Int) (t : Bs), k ≤ many ∧ lst ≤ 255 ∧ sb = .slice Ab m cc ∧ sl = .int .u64 lst ∧ si = .int .u64 k ∧ BAsk w1 B Ab m cc t ∧ ON EI 1 3 w1 so L wr ∧ (k = 0 → L = []) ∧ L.length ≤ lst + 1 ∧ addR L (runsR (many - k) (k == 0) lst t) = R) (fun _ _ _ i _ => many - (intOf i).toNat)
          case atStart => exact ⟨0, 0, m0, ct, At, [], t0, by omega, by omega, rfl, rfl, rfl, HL0.out, ON.nil _, fun _ => rfl, by simp, by rw [addR_nil]; exact HR2.out⟩
          case round =>
            obtain ⟨k, lst, m, cc, Ab, L, t, hk, hlst, rfl, rfl, rfl, hba, hf, hL0, hLl, hrun⟩ := hrel
            have HBA := Lib.hid hba
            have HF := Lib.hid hf
            have HL0' := Lib.hid hL0
            have HRUN := Lib.hid hrun
            have hbw : Below w1.heap.size w1 wr := hf.below
            have HBWR := Lib.hid (HB1.out.trans (hbw.mono HB1.out.size))
            have HB1X := Lib.hid hbw
            have HBr := Lib.hid (hba.below (hbw.mono HBW1.out))
            clear hba hf hL0 hrun hbw
            by_cases hlt : k < many
            · obtain ⟨j, hj⟩ : ∃ j, many - k = j + 1 := ⟨many - k - 1, by omega⟩
              rw [hj] at HRUN
              cases hfar : numR t with
              | error er =>
                have e0 : Hid (R = .error er) := Lib.hid (by rw [← HRUN.out, runsR_far hfar]; rfl)
                have HFA := Lib.hid hfar
                have her : Hid (er ≠ 0) := Lib.hid (nn_num _ _ hfar)
                have herd : ((er : Int) != 0) = true := by simp; exact her.out
                clear hfar hj
                go_wp2_with fail
                refine (refGot_err HBr.out HFA.out).mono ?_
                rintro e w2 ⟨rfl, hb2⟩
                have HB2 := Lib.hid (HBWR.out.trans (hb2.mono HBWR.out.size))
                clear hb2
                go_wp2
                go_ret3
                exact serr_mk e0.out HB2.out
              | ok r1 =>
                obtain ⟨far, t1⟩ := r1
                have HFA := Lib.hid hfar
                have hfb := (num_back hfar).2
                cases hmore : numR t1 with
                | error er =>
                  have e0 : Hid (R = .error er) := Lib.hid (by rw [← HRUN.out, runsR_more hfar hmore]; rfl)
                  have HMO := Lib.hid hmore
                  have her : Hid (er ≠ 0) := Lib.hid (nn_num _ _ hmore)
                  have herd : ((er : Int) != 0) = true := by simp; exact her.out
                  clear hfar hmore hj
                  go_wp2_with fail
                  refine (refGot_ok HBr.out HFA.out).mono ?_
                  rintro e w2 ⟨⟨A2, c2, rfl, ht1⟩, hb2⟩
                  have HB2 := Lib.hid (HBWR.out.trans (hb2.mono HBWR.out.size))
                  have HT1 := Lib.hid ht1
                  clear hb2 ht1
                  go_wp2_with fail
                  refine (refGot_err HT1.out HMO.out).mono ?_
                  rintro e w3 ⟨rfl, hb3⟩
                  have HB3 := Lib.hid (HB2.out.trans (hb3.mono HB2.out.size))
                  clear hb3
                  go_wp2
                  go_ret3
                  exact serr_mk e0.out HB3.out
                | ok r2 =>
                  obtain ⟨more, t2⟩ := r2
                  have HMO := Lib.hid hmore
                  have hmb := (num_back hmore).2
                  have HBAD : Hid (¬ (far ≤ 255 ∧ more ≤ 255 ∧ lst + far + more ≤ 255 ∧ ((k == 0) = true ∨ 2 ≤ far)) → R = .error 3) := Lib.hid (fun hc => by rw [← HRUN.out, runsR_bad hfar hmore hc]; rfl)
                  have HGOOD : Hid ((far ≤ 255 ∧ more ≤ 255 ∧ lst + far + more ≤ 255 ∧ ((k == 0) = true ∨ 2 ≤ far)) → addR (L ++ runN (lst + far) more) (runsR j false (lst + far + more) t2) = R) := Lib.hid (fun hc => by rw [← HRUN.out, runsR_good hfar hmore hc, addR_add])
                  have HJ : Hid (many - (k + 1) = j) := Lib.hid (by omega)
                  clear hfar hmore hj
                  by_cases g1 : 255 < far
                  · have e0 := Lib.hid (HBAD.out (fun h => by omega))
                    have f1 : decide ((255 : Int) < (far : Int)) = true := by simp; omega
                    go_wp2_with fail
                    refine (refGot_ok HBr.out HFA.out).mono ?_
                    rintro e w2 ⟨⟨A2, c2, rfl, ht1⟩, hb2⟩
                    have HB2 := Lib.hid (HBWR.out.trans (hb2.mono HBWR.out.size))
                    have HW2 := Lib.hid hb2
                    have HT1 := Lib.hid ht1
                    clear hb2 ht1
                    go_wp2_with fail
                    refine (refGot_ok HT1.out HMO.out).mono ?_
                    rintro e w3 ⟨⟨A3, c3, rfl, ht2⟩, hb3⟩
                    have HB3 := Lib.hid (HB2.out.trans (hb3.mono HB2.out.size))
                    have HW3 := Lib.hid (HW2.out.trans (hb3.mono HW2.out.size))
                    have HT2 := Lib.hid ht2
                    clear hb3 ht2
                    go_wp2
                    go_ret3
                    exact serr_mk e0.out HB3.out
                  · have f1 : decide ((255 : Int) < (far : Int)) = false := by simp; omega
                    by_cases g2 : 255 < more
                    · have e0 := Lib.hid (HBAD.out (fun h => by omega))
                      have f2 : decide ((255 : Int) < (more : Int)) = true := by simp; omega
                      go_wp2_with fail
                      refine (refGot_ok HBr.out HFA.out).mono ?_
                      rintro e w2 ⟨⟨A2, c2, rfl, ht1⟩, hb2⟩
                      have HB2 := Lib.hid (HBWR.out.trans (hb2.mono HBWR.out.size))
                      have HW2 := Lib.hid hb2
                      have HT1 := Lib.hid ht1
                      clear hb2 ht1
                      go_wp2_with fail
                      refine (refGot_ok HT1.out HMO.out).mono ?_
                      rintro e w3 ⟨⟨A3, c3, rfl, ht2⟩, hb3⟩
                      have HB3 := Lib.hid (HB2.out.trans (hb3.mono HB2.out.size))
                      have HW3 := Lib.hid (HW2.out.trans (hb3.mono HW2.out.size))
                      have HT2 := Lib.hid ht2
                      clear hb3 ht2
                      go_wp2
                      go_ret3
                      exact serr_mk e0.out HB3.out
                    · have f2 : decide ((255 : Int) < (more : Int)) = false := by simp; omega
                      by_cases g3 : 255 < lst + far + more
                      · have e0 := Lib.hid (HBAD.out (fun h => by omega))
                        have f3 : decide ((255 : Int) < (lst : Int) + (far : Int) + (more : Int)) = true := by simp; omega
                        go_wp2_with fail
                        refine (refGot_ok HBr.out HFA.out).mono ?_
                        rintro e w2 ⟨⟨A2, c2, rfl, ht1⟩, hb2⟩
                        have HB2 := Lib.hid (HBWR.out.trans (hb2.mono HBWR.out.size))
                        have HW2 := Lib.hid hb2
                        have HT1 := Lib.hid ht1
                        clear hb2 ht1
                        go_wp2_with fail
                        refine (refGot_ok HT1.out HMO.out).mono ?_
                        rintro e w3 ⟨⟨A3, c3, rfl, ht2⟩, hb3⟩
                        have HB3 := Lib.hid (HB2.out.trans (hb3.mono HB2.out.size))
                        have HW3 := Lib.hid (HW2.out.trans (hb3.mono HW2.out.size))
                        have HT2 := Lib.hid ht2
                        clear hb3 ht2
                        go_wp2
                        go_ret3
                        exact serr_mk e0.out HB3.out
                      · have f3 : decide ((255 : Int) < (lst : Int) + (far : Int) + (more : Int)) = false := by simp; omega
                        by_cases g4 : 0 < k ∧ far < 2
                        · have e0 := Lib.hid (HBAD.out (fun h => by have h4 := h.2.2.2; rw [beq_iff_eq] at h4; omega))
                          have f4 : decide (0 < k) = true := by simp; exact g4.1
                          have f5 : decide ((far : Int) < 2) = true := by simp; omega
                          go_wp2_with fail
                          refine (refGot_ok HBr.out HFA.out).mono ?_
                          rintro e w2 ⟨⟨A2, c2, rfl, ht1⟩, hb2⟩
                          have HB2 := Lib.hid (HBWR.out.trans (hb2.mono HBWR.out.size))
                          have HW2 := Lib.hid hb2
                          have HT1 := Lib.hid ht1
                          clear hb2 ht1
                          go_wp2_with fail
                          refine (refGot_ok HT1.out HMO.out).mono ?_
                          rintro e w3 ⟨⟨A3, c3, rfl, ht2⟩, hb3⟩
                          have HB3 := Lib.hid (HB2.out.trans (hb3.mono HB2.out.size))
                          have HW3 := Lib.hid (HW2.out.trans (hb3.mono HW2.out.size))
                          have HT2 := Lib.hid ht2
                          clear hb3 ht2
                          go_wp2
                          go_ret3
                          exact serr_mk e0.out HB3.out
                        · have HCOND := Lib.hid (HGOOD.out ⟨by omega, by omega, by omega, by rw [beq_iff_eq]; omega⟩)
                          have hguard : decide (0 < k) = false ∨ (decide (0 < k) = true ∧ decide ((far : Int) < 2) = false) := by
                            rcases Nat.eq_zero_or_pos k with hk0 | hk0
                            · left; simp; omega
                            · right; exact ⟨by simp; omega, by simp; omega⟩
                          obtain ⟨b0, hb0⟩ : ∃ b0, lst + far = b0 := ⟨_, rfl⟩
                          obtain ⟨tp, htp⟩ : ∃ tp, b0 + more = tp := ⟨_, rfl⟩
                          obtain ⟨fm, hfm⟩ : ∃ fm, far + more = fm := ⟨_, rfl⟩
                          have i1 : (lst : Int) + (far : Int) = (b0 : Int) := by omega
                          have i2 : (b0 : Int) + (more : Int) = (tp : Int) := by omega
                          have i3 : (far : Int) + (more : Int) = (fm : Int) := by omega
                          have i4 : (lst : Int) + (fm : Int) = (tp : Int) := by omega
                          have htp255 : tp ≤ 255 := by omega
                          have hb0tp : b0 ≤ tp := by omega
                          have hfm255 : fm ≤ 255 := by omega
                          have hfar255 : far ≤ 255 := by omega
                          have hmore255 : more ≤ 255 := by omega
                          have f3' : decide ((255 : Int) < (tp : Int)) = false := by simp; omega
                          have HLEN : Hid ((L ++ runN b0 more).length ≤ tp + 1) := Lib.hid (by
                            have hr : (runN b0 more).length = more + 1 := by unfold runN; simp
                            rw [List.length_append, hr]
                            rcases Nat.eq_zero_or_pos k with hk0 | hk0
                            · rw [HL0'.out hk0]; simp; omega
                            · omega)
                          have HCOND2 : Hid (addR (L ++ runN b0 more) (runsR j false tp t2) = R) := Lib.hid (by have := HCOND.out; rwa [hb0, htp] at this)
                          have HLST : Hid (lst + 1 ≤ 1000) := Lib.hid (by omega)
                          have HMORE : Hid (more ≤ 255 ∧ b0 + more = tp) := Lib.hid ⟨by omega, htp⟩
                          clear g1 g2 g3 g4 f3 hb0 htp hfm hfb hmb
                          rcases hguard with hg1 | ⟨hg1, hg2⟩
                          all_goals
                            go_wp2_with fail
                            refine (refGot_ok HBr.out HFA.out).mono ?_
                            rintro e w2 ⟨⟨A2, c2, rfl, ht1⟩, hb2⟩
                            have HB2 := Lib.hid (HBWR.out.trans (hb2.mono HBWR.out.size))
                            have HW2 := Lib.hid hb2
                            have HT1 := Lib.hid ht1
                            clear hb2 ht1
                            go_wp2_with fail
                            refine (refGot_ok HT1.out HMO.out).mono ?_
                            rintro e w3 ⟨⟨A3, c3, rfl, ht2⟩, hb3⟩
                            have HB3 := Lib.hid (HB2.out.trans (hb3.mono HB2.out.size))
                            have HW3 := Lib.hid (HW2.out.trans (hb3.mono HW2.out.size))
                            have HT2 := Lib.hid ht2
                            clear hb3 ht2
                            go_wp2
                            clear hg1
                            go_loopw [7, 14] (fun so sn w' => ∃ q : Nat, q ≤ more + 1 ∧ sn = .int .u64 ((b0 + q : Nat) : Int) ∧ ON EI 1 3 w1 so (L ++ (List.range q).map fun i => ((b0 + i : Nat) : Int)) w') (fun _ sn _ => b0 + more + 1 - (intOf sn).toNat)
                            case atStart => exact ⟨0, by omega, rfl, by simpa using HF.out.next ei_steady HW3.out⟩
                            case round =>
                              obtain ⟨q, hq, rfl, hf3⟩ := hrel
                              have HF3 := Lib.hid hf3
                              clear hf3
                              obtain ⟨N, hN⟩ : ∃ N, b0 + q = N := ⟨_, rfl⟩
                              rw [hN]
                              have HN := Lib.hid hN
                              have hN300 : N ≤ 256 := by have := HMORE.out; omega
                              by_cases hqm : q ≤ more
                              · have hNt : N ≤ tp := by have := HMORE.out; omega
                                have hlen : Hid ((L ++ (List.range q).map fun i => ((b0 + i : Nat) : Int)).length ≤ 1000) := Lib.hid (by
                                  have := HMORE.out
                                  have := HLST.out
                                  rw [List.length_append, List.length_map, List.length_range]; omega)
                                clear hN
                                go_wp2_with (at_builtin; refine wpList_append_EI rfl (.tmp 92) (.tmp 95) 24 3 rfl HF3.out i0 Try.underlying24 hi0 hz0 hz1 hz2 rfl _ rfl hlen.out ?_; intro v' w4 hON4; refine Hid.out ?_)
                                refine Lib.hid ?_
                                have HO4 : Hid (ON EI 1 3 w1 v' (L ++ (List.range (q + 1)).map fun i => ((b0 + i : Nat) : Int)) w4) := Lib.hid (by
                                  rw [List.range_succ, List.map_append, ← List.append_assoc]
                                  have := hON4
                                  rw [← HN.out] at this
                                  exact this)
                                clear hON4
                                go_wp2
                                go_roundw
                                case rel => exact ⟨q + 1, by omega, by rw [← HN.out]; go_num, HO4.out⟩
                                case measure => have := HN.out; simp [intOf]; omega
                              · have hqe : q = more + 1 := by omega
                                have hNd : decide (N ≤ tp) = false := by have := HMORE.out; simp; omega
                                have HX : Hid (ON EI 1 3 w1 _ (L ++ runN b0 more) _) := Lib.hid (by have := HF3.out; rw [hqe] at this; exact this)
                                have HT3 := Lib.hid (HT2.out.back ((HB1X.out.trans (HW3.out.mono HB1X.out.size)).mono HBW1.out))
                                clear hN hqm hqe
                                go_wp2
                                go_roundw
                                case rel => exact ⟨k + 1, tp, t2.length, c3, A3, L ++ runN b0 more, t2, by omega, htp255, rfl, rfl, by go_num, HT3.out, HX.out, fun h => absurd h (by omega), HLEN.out, by rw [HJ.out]; exact HCOND2.out⟩
                                case measure => simp [intOf]; omega
            · have hkm : k = many := by omega
              have e0 : Hid (R = .ok (L, t)) := Lib.hid (by rw [← HRUN.out, hkm, Nat.sub_self]; show Except.ok (L ++ [], t) = Except.ok (L, t); rw [List.append_nil])
              have hld : decide (k < many) = false := by simp; omega
              clear hkm hlt
              go_wp2
              go_ret3
              obtain ⟨Ao, co, rfl, ho1, ho2⟩ := HF.out.form
              have hml := HBA.out.reads.len
              subst hml
              rw [e0.out]
              exact ⟨⟨Ao, co, Ab, cc, rfl, (HF.out.reads ei_steady (by omega) rfl).ri, ho1, ho2, HBr.out⟩, HBWR.out⟩
        · have e0 : Hid (R = .error 3) := Lib.hid (by rw [HRM.out, if_neg h256])
          have h256d : decide ((256 : Int) < (many : Int)) = true := by simp; omega
          clear h256
          go_enter Try.func55, Try.ntmps55
          go_wp2_with fail
          refine (refGot_ok HC1.out HM.out).mono ?_
          rintro e w1 ⟨⟨At, ct, rfl, ht0⟩, hb1⟩
          have HB1 := Lib.hid hb1
          clear hb1 ht0
          go_wp2
          go_ret3
          exact serr_mk e0.out HB1.out
    · have e0 : Hid (R = .error 3) := Lib.hid (by rw [← HR.out, setR_other (fun h => hy2 (by rw [← HY.out, h]; rfl))])
      have hyd : ((y : Int) != 2) = true := by simp; omega
      clear hy2
      go_enter Try.func55, Try.ntmps55
      go_wp2
      go_ret3
      exact serr_mk e0.out (Below.refl _ _)

end Go.Proofs.Ytlpogkcfjbabaaa
