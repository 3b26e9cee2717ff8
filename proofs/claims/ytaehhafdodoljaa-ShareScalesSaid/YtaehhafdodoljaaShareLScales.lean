/- The walk of the statement ShareScales of layer 15, over the program's contracts. Written by gen/gen_share.py. -/
import Derived.Test.YtaehhafdodoljaaShareAwake
import Derived.Deep.RegionHeld3
import Derived.Test.YtaehhafdodoljaaLater
import Derived.Test.YtaehhafdodoljaaShareLRight
import Derived.Test.YtaehhafdodoljaaAppendAll
namespace Go.Proofs.Ytaehhafdodoljaa
open Go.RowKit

theorem us_ok0 {a b : Nat} (ha : W64 a) (hb : W64 b) : UsOk ⟨0, a, b⟩ := ⟨(show (-9223372036854775808 : Int) ≤ 0 ∧ (0 : Int) ≤ 9223372036854775807 by decide), ha, hb⟩
theorem share_at (H : ShareOk) {a b s : Nat} (W : World) (hk : UsOk ⟨0, a, b⟩) (hs : shareU ⟨0, a, b⟩ = s) : Calls Try.prog 16 #[.agg #[.int .i64 0, .float .f64 a, .float .f64 b]] W fun e w' => e = .returned (.float .f64 s) ∧ Below W.heap.size W w' := s15_v (H.share ⟨0, a, b⟩ W hk) hs
theorem floatInt_nat (n : Nat) : floatOfInt .f64 (n : Int) = intF n := by
  rw [← nearest_int n]
  have hneg : decide ((n : Int) < 0) = false := decide_eq_false (by omega)
  show Ieee.double.write (.number (decide ((n : Int) < 0)) (n : Int).natAbs 0) = _
  rw [hneg, Int.natAbs_natCast]
  rfl
theorem count_step {l : List Us} {who : Int} {k : Nat} (hk : k < l.length) : (l.take (k + 1)).countP (fun v => decide (v.who ≠ who)) = (l.take k).countP (fun v => decide (v.who ≠ who)) + (decide ((l.getD k us0).who ≠ who)).toNat := by
  have hg : l.getD k us0 = l[k] := by rw [List.getD, List.getElem?_eq_getElem hk]; rfl
  rw [List.take_succ_eq_append_getElem hk, List.countP_append, hg, List.countP_singleton]
  cases decide (l[k].who ≠ who) <;> rfl
set_option maxRecDepth 100000 in
set_option maxHeartbeats 8000000 in
theorem shareScales_walk (H : ShareOk) (hi gi mi : Int) (A : Option Addr) (n c : Nat) (l : List Us) (who : Int) (w : World) (hh : 0 ≤ hi ∧ hi ≤ 4294967295) (hg : 0 ≤ gi ∧ gi ≤ 4294967295) (hm : 0 ≤ mi ∧ mi ≤ 4294967295) (hl : UAsk w A n c l) (hw : I64 who) :
    Calls Try.prog 7 #[.int .u32 hi, .int .u32 gi, .int .u32 mi, .slice A n c, .int .i64 who] w fun e w' => e = .returned (.bool true) ∧ Below w.heap.size w w' := by
  obtain ⟨i0, hi0, hz0, hz1, hz2⟩ : ∃ i, Try.prog.info? 25 = some i ∧ i.zero = some (.agg #[.int .i64 0, .float .f64 0, .float .f64 0]) ∧ i.size = 3 ∧ i.bytes = 24 := info_parts (by kernel_rfl)
  obtain ⟨p, rfl⟩ := Int.eq_ofNat_of_zero_le hh.1
  obtain ⟨g, rfl⟩ := Int.eq_ofNat_of_zero_le hg.1
  obtain ⟨mo, rfl⟩ := Int.eq_ofNat_of_zero_le hm.1
  have hh4 : p ≤ 4294967295 := by omega
  have hg4 : g ≤ 4294967295 := by omega
  have hm4 : mo ≤ 4294967295 := by omega
  clear hh hg hm
  have HB := Lib.hid (Below.refl w.heap.size w)
  have HW := Lib.hid hw
  have HWO : Hid (UsOk ⟨who, 0, 0⟩) := Lib.hid ⟨hw, w64_le (Nat.zero_le _), w64_le (Nat.zero_le _)⟩
  have c1 : cleanF (intF p) = intF p := cleanF_self (intF_lt (by omega))
  have c2 : cleanF (intF g) = intF g := cleanF_self (intF_lt (by omega))
  have c3 : cleanF (intF (2 * p)) = intF (2 * p) := cleanF_self (intF_lt (by omega))
  have c4 : cleanF (intF (2 * g)) = intF (2 * g) := cleanF_self (intF_lt (by omega))
  have c5 : cleanF (intF (p + mo)) = intF (p + mo) := cleanF_self (intF_lt (by omega))
  have u1 : ∀ n : Nat, n < 9007199254740992 → W64 (intF n) := fun n hn => w64_le (Nat.le_of_lt (intF_lt hn))
  obtain ⟨s1, hs1⟩ : ∃ s, shareU ⟨0, intF p, intF g⟩ = s := ⟨_, rfl⟩
  have hs2 : shareU ⟨0, intF (2 * p), intF (2 * g)⟩ = s1 := by
    rw [← hs1]; unfold shareU
    simp only [c1, c2, c3, c4]
    exact share_twice (by omega) (by omega)
  obtain ⟨s3, hs3⟩ : ∃ s, shareU ⟨0, intF (p + mo), intF g⟩ = s := ⟨_, rfl⟩
  have hs4 : s1 ≤ s3 := by
    rw [← hs1, ← hs3]; unfold shareU
    simp only [c1, c2, c5]
    exact share_mono (by omega) (by omega) (by omega)
  have ok : ∀ a b : Nat, a < 9007199254740992 → b < 9007199254740992 → UsOk ⟨0, intF a, intF b⟩ := fun a b ha hb => us_ok0 (u1 a ha) (u1 b hb)
  have hk1 := ok p g (by omega) (by omega)
  have hk2 := ok (2 * p) (2 * g) (by omega) (by omega)
  have hk3 := ok (p + mo) g (by omega) (by omega)
  have HS1 : Hid (∀ W : World, Calls Try.prog 16 #[.agg #[.int .i64 0, .float .f64 (intF p), .float .f64 (intF g)]] W fun e w' => e = .returned (.float .f64 s1) ∧ Below W.heap.size W w') := Lib.hid (fun W => share_at H W hk1 hs1)
  have HS2 : Hid (∀ W : World, Calls Try.prog 16 #[.agg #[.int .i64 0, .float .f64 (intF (2 * p)), .float .f64 (intF (2 * g))]] W fun e w' => e = .returned (.float .f64 s1) ∧ Below W.heap.size W w') := Lib.hid (fun W => share_at H W hk2 hs2)
  have HS3 : Hid (∀ W : World, Calls Try.prog 16 #[.agg #[.int .i64 0, .float .f64 (intF (p + mo)), .float .f64 (intF g)]] W fun e w' => e = .returned (.float .f64 s3) ∧ Below W.heap.size W w') := Lib.hid (fun W => share_at H W hk3 hs3)
  have g1 : (FloatKind.f64.format.order s3 s1 == some Ordering.lt) = false := by
    rw [flt (by rw [← hs3]; exact shareU_le _) (by rw [← hs1]; exact shareU_le _)]
    exact decide_eq_false (Nat.not_lt.2 hs4)
  have f1 : floatOfInt .f64 (p : Int) = intF p := floatInt_nat p
  have f2 : floatOfInt .f64 (g : Int) = intF g := floatInt_nat g
  have f3 : floatOfInt .f64 (mo : Int) = intF mo := floatInt_nat mo
  have HMA : Hid (∀ (t : TypeId) (W : World), (binOp .mul t (.float .f64 4611686018427387904) (.float .f64 (intF p))).run Try.prog W = .ok (.float .f64 (intF (2 * p))) W) := Lib.hid (fun t W => run_float_arith W .mul t .f64 _ _ _ (mul_int2 (by omega)))
  have HMB : Hid (∀ (t : TypeId) (W : World), (binOp .mul t (.float .f64 4611686018427387904) (.float .f64 (intF g))).run Try.prog W = .ok (.float .f64 (intF (2 * g))) W) := Lib.hid (fun t W => run_float_arith W .mul t .f64 _ _ _ (mul_int2 (by omega)))
  have HMC : Hid (∀ (t : TypeId) (W : World), (binOp .add t (.float .f64 (intF p)) (.float .f64 (intF mo))).run Try.prog W = .ok (.float .f64 (intF (p + mo))) W) := Lib.hid (fun t W => run_float_arith W .add t .f64 _ _ _ (add_int (by omega) (by omega)))
  clear c1 c2 c3 c4 c5 u1 hs1 hs2 hs3 hs4 ok hk1 hk2 hk3
  obtain ⟨ip, eip⟩ : ∃ x, intF p = x := ⟨_, rfl⟩
  obtain ⟨ig, eig⟩ : ∃ x, intF g = x := ⟨_, rfl⟩
  obtain ⟨im, eim⟩ : ∃ x, intF mo = x := ⟨_, rfl⟩
  obtain ⟨jp, ejp⟩ : ∃ x, intF (2 * p) = x := ⟨_, rfl⟩
  obtain ⟨jg, ejg⟩ : ∃ x, intF (2 * g) = x := ⟨_, rfl⟩
  obtain ⟨jm, ejm⟩ : ∃ x, intF (p + mo) = x := ⟨_, rfl⟩
  rw [eip, eig] at HS1
  rw [ejp, ejg] at HS2
  rw [ejm, eig] at HS3
  rw [eip] at f1
  rw [eig] at f2
  rw [eim] at f3
  simp only [eip, ejp] at HMA
  simp only [eig, ejg] at HMB
  simp only [eip, eim, ejm] at HMC
  clear eip eig eim ejp ejg ejm
  have hcap := hl.cap
  by_cases h2 : n ≤ 60
  · have UA := Lib.hid hl
    have HM2 : Hid (n ≤ 60) := Lib.hid h2
    clear hl hw
    obtain ⟨bn, hbn⟩ : ∃ bn, bonusU l who = bn := ⟨_, rfl⟩
    obtain ⟨bm, hbm⟩ : ∃ bm, bonusU (l ++ [(⟨who, 0, 0⟩ : Us)]) who = bm := ⟨_, rfl⟩
    have HBN := Lib.hid hbn
    have HBB := Lib.hid hbm
    have HBM : Hid (bn ≤ bm) := Lib.hid (by rw [← hbn, ← hbm]; exact bonus_more l who)
    clear hbn hbm
    go_enter Try.func7, Try.ntmps7
    go_wp2_with fail
    refine (shareAwake H w).mono ?_
    rintro e w1 ⟨rfl, hb⟩
    have HBq := Lib.hid (HB.out.trans (hb.mono HB.out.size))
    clear HB
    have HB := HBq
    clear HBq
    have UAq := Lib.hid (UA.out.next hb)
    clear UA
    have UA := UAq
    clear UAq
    clear hb
    have hb := Below.alloc (Below.refl w1.heap.size w1) (Nat.le_refl _) (.cells #[.int .i64 0, .float .f64 ip, .float .f64 ig] 25)
    have BUq := Lib.hid (boxU_new w1 ⟨0, ip, ig⟩)
    have HBq := Lib.hid (HB.out.trans (hb.mono HB.out.size))
    clear HB
    have HB := HBq
    clear HBq
    have UAq := Lib.hid (UA.out.next hb)
    clear UA
    have UA := UAq
    clear UAq
    clear hb
    have BU := BUq
    clear BUq
    have HM1 := HMA.out
    have HM3 := HMB.out
    have HM4 := HMC.out
    go_wp2
    have HKEEP : Hid (∀ wx, Below (w1.alloc (.cells #[.int .i64 0, .float .f64 ip, .float .f64 ig] 25)).drew.heap.size (w1.alloc (.cells #[.int .i64 0, .float .f64 ip, .float .f64 ig] 25)).drew wx → wx.cell? ⟨w1.heap.size, 0, none⟩ = some (.int .i64 0) ∧ wx.cell? ⟨w1.heap.size, 1, none⟩ = some (.float .f64 ip) ∧ wx.cell? ⟨w1.heap.size, 2, none⟩ = some (.float .f64 ig)) := Lib.hid (fun wx hz' => by
      have hz := (bel_drew1 (w1.alloc (.cells #[.int .i64 0, .float .f64 ip, .float .f64 ig] 25))).trans (hz'.mono (bel_drew1 (w1.alloc (.cells #[.int .i64 0, .float .f64 ip, .float .f64 ig] 25))).size)
      exact ⟨keep_cell BU.out.lt BU.out.c0 hz, keep_cell BU.out.lt BU.out.c1 hz, keep_cell BU.out.lt BU.out.c2 hz⟩)
    have hd := bel_drew1 (w1.alloc (.cells #[.int .i64 0, .float .f64 ip, .float .f64 ig] 25))
    have HBq := Lib.hid (HB.out.trans (hd.mono HB.out.size))
    clear HB
    have HB := HBq
    clear HBq
    have UAq := Lib.hid (UA.out.next hd)
    clear UA
    have UA := UAq
    clear UAq
    have BUq := Lib.hid (BU.out.next hd)
    clear BU
    have BU := BUq
    clear BUq
    clear hd
    have HY := Lib.hid (Below.refl (w1.alloc (.cells #[.int .i64 0, .float .f64 ip, .float .f64 ig] 25)).drew.heap.size (w1.alloc (.cells #[.int .i64 0, .float .f64 ip, .float .f64 ig] 25)).drew)
    go_region_held3 (fun w' => w'.cell? ⟨w1.heap.size, 0, none⟩ = some (.int .i64 0) ∧ w'.cell? ⟨w1.heap.size, 1, none⟩ = some (.float .f64 ip) ∧ w'.cell? ⟨w1.heap.size, 2, none⟩ = some (.float .f64 ig))
      (first | exact HKEEP.out _ (Below.refl _ _) | exact HKEEP.out _ HY.out | exact HKEEP.out _ (HY.out.alloc HY.out.size _) | go_keep | fail)
      (first | (go_at_call 16; (with_reducible refine (HS1.out (w1.alloc (.cells #[.int .i64 0, .float .f64 ip, .float .f64 ig] 25)).drew).mono ?_); rintro e w2 ⟨rfl, hb⟩; have HY := Lib.hid (HY.out.trans (hb.mono HY.out.size)); have HB := Lib.hid (HB.out.trans (hb.mono HB.out.size)); have UA := Lib.hid (UA.out.next hb); have BU := Lib.hid (BU.out.next hb); clear hb) | (go_at_call 16; (with_reducible refine (HS2.out w2).mono ?_); rintro e w3 ⟨rfl, hb⟩; have HY := Lib.hid (HY.out.trans (hb.mono HY.out.size)); have HB := Lib.hid (HB.out.trans (hb.mono HB.out.size)); have UA := Lib.hid (UA.out.next hb); have BU := Lib.hid (BU.out.next hb); clear hb) | (go_at_call 9; (with_reducible refine (lawSame_self s1 w3).mono ?_); rintro e w4 ⟨rfl, hb⟩; have HY := Lib.hid (HY.out.trans (hb.mono HY.out.size)); have HB := Lib.hid (HB.out.trans (hb.mono HB.out.size)); have UA := Lib.hid (UA.out.next hb); have BU := Lib.hid (BU.out.next hb); clear hb) | (go_at_call 16; (with_reducible refine (HS3.out w4).mono ?_); rintro e w5 ⟨rfl, hb⟩; have HY := Lib.hid (HY.out.trans (hb.mono HY.out.size)); have HB := Lib.hid (HB.out.trans (hb.mono HB.out.size)); have UA := Lib.hid (UA.out.next hb); have BU := Lib.hid (BU.out.next hb); clear hb) | (go_at_call 16; (with_reducible refine (HS1.out w5).mono ?_); rintro e w6 ⟨rfl, hb⟩; have HY := Lib.hid (HY.out.trans (hb.mono HY.out.size)); have HB := Lib.hid (HB.out.trans (hb.mono HB.out.size)); have UA := Lib.hid (UA.out.next hb); have BU := Lib.hid (BU.out.next hb); clear hb) | fail)
    clear HKEEP HY
    clear HM1 HM3 HM4
    go_wp2
    go_loopw [15, 16] (fun cv iv wr => ∃ (k q : Nat), k ≤ n ∧ q ≤ k ∧ iv = .int .i64 k ∧ cv = .int .i64 q ∧ (l.take k).countP (fun v => decide (v.who ≠ who)) = q ∧ UAsk wr A n c l ∧ Below w.heap.size w wr) (fun _ iv _ => n - (intOf iv).toNat)
    case atStart => exact ⟨0, 0, Nat.zero_le _, Nat.le_refl _, rfl, rfl, rfl, UA.out, HB.out⟩
    case round =>
      obtain ⟨k, q, hk, hqk, rfl, rfl, hcn, hua, hb⟩ := hrel
      have UB := Lib.hid hua
      have HBZ := Lib.hid hb
      have HCN := Lib.hid hcn
      clear hua hb hcn
      by_cases hlt : k < n
      · obtain ⟨b1, off, hA, hbl, ⟨e0, e1, e2⟩, hy⟩ := UB.out.one hlt
        subst hA
        have HST := Lib.hid (count_step (l := l) (who := who) (k := k) (by rw [UB.out.len]; exact hlt))
        obtain ⟨v, ev⟩ : ∃ v, l.getD k us0 = v := ⟨_, rfl⟩
        rw [ev] at e0 e1 e2 HST
        clear hy ev
        by_cases hvw : v.who = who
        · have dv : (v.who != who) = false := by rw [hvw]; exact bne_self_eq_false _
          have HS2' : Hid ((l.take (k + 1)).countP (fun v => decide (v.who ≠ who)) = q) := Lib.hid (by rw [HST.out, HCN.out, decide_eq_false (not_not_intro hvw)]; rfl)
          clear hvw
          go_wp2
          go_roundw
          case rel => exact ⟨k + 1, q, by omega, by omega, by go_num, rfl, HS2'.out, UB.out, HBZ.out⟩
          case measure => simp [intOf] <;> omega
        · have dv : (v.who != who) = true := bne_iff_ne.2 hvw
          have HS2' : Hid ((l.take (k + 1)).countP (fun v => decide (v.who ≠ who)) = q + 1) := Lib.hid (by rw [HST.out, HCN.out, decide_eq_true hvw]; rfl)
          clear hvw
          go_wp2
          go_roundw
          case rel => exact ⟨k + 1, q + 1, by omega, by omega, by go_num, by go_num, HS2'.out, UB.out, HBZ.out⟩
          case measure => simp [intOf] <;> omega
      · have HQB : Hid (bn ≤ q) := Lib.hid (by
          rw [← HBN.out]
          have h1 := bonus_le l who
          have h2 := HCN.out
          rw [List.take_of_length_le (by rw [UB.out.len]; omega)] at h2
          rw [h2] at h1
          exact h1)
        have HC1 := Lib.hid (s15_i (H.bonus A n c l who wr UB.out HW.out (by have := HM2.out; omega)) HBN.out)
        have HB0 : Hid (0 ≤ bn) := Lib.hid (by rw [← HBN.out]; exact bonus_nonneg l who)
        go_wp2_with fail
        refine HC1.out.mono ?_
        rintro e w10 ⟨rfl, hb⟩
        have UBq := Lib.hid (UB.out.next hb)
        clear UB
        have UB := UBq
        clear UBq
        have HBZq := Lib.hid (HBZ.out.trans (hb.mono HBZ.out.size))
        clear HBZ
        have HBZ := HBZq
        clear HBZq
        clear hb HC1
        have d1 : decide (bn ≥ 0) = true := decide_eq_true HB0.out
        have d2 : decide (bn ≤ (q : Int)) = true := decide_eq_true HQB.out
        have hq0 := HB0.out
        have hq1 := HQB.out
        go_wp2_with (at_builtin; refine wpList_wanted rfl ?_; refine wpList_append_all rfl (.tmp 81) (.tmp 82) 33 rfl eu_steady (fun _ _ y vs hE u hu => by obtain ⟨rfl, _⟩ := hE; simp at hu; rcases hu with rfl | rfl | rfl <;> rfl) i0 (.agg #[.int .i64 0, .float .f64 0, .float .f64 0]) 24 Try.underlying33 hi0 hz0 hz1 hz2 rfl (by decide) rfl rfl UB.out.reads UB.out.nil UB.out.few (by have := HM2.out; omega) ?_; intro v11 w11 hon; refine Hid.out ?_)
        refine Lib.hid ?_
        have HON := Lib.hid hon
        clear hon
        go_wp2_with (at_builtin; refine wpList_wanted rfl ?_; refine wpList_append_ON rfl (.tmp 83) (.tmp 86) 33 rfl eu_steady HON.out i0 (.agg #[.int .i64 0, .float .f64 0, .float .f64 0]) 24 Try.underlying33 hi0 hz0 hz1 hz2 rfl (by decide) rfl ⟨who, 0, 0⟩ #[.int .i64 who, .float .f64 0, .float .f64 0] rfl rfl (by intro u hu; simp at hu; rcases hu with rfl | rfl | rfl <;> rfl) ⟨rfl, HWO.out⟩ (by have := UB.out.len; have := HM2.out; unfold maxLen; omega) (by have := UB.out.len; have := HM2.out; omega) ?_; intro v12 w12 hon; refine Hid.out ?_)
        refine Lib.hid ?_
        have hb := hon.below
        obtain ⟨A9, c9, hv, h91, h92⟩ := hon.form
        have hlz : (l ++ [(⟨who, 0, 0⟩ : Us)]).length = n + 1 := by rw [List.length_append, UB.out.len, List.length_singleton]
        have hrd := hon.reads eu_steady (by simp) hv
        rw [hlz] at hv h92 hrd
        obtain ⟨z, hz⟩ : ∃ z, n + 1 = z := ⟨_, rfl⟩
        have hz61 : z ≤ 61 := by have := HM2.out; omega
        rw [hz] at hv h92 hrd
        subst hv
        have UZ : Hid (UAsk w12 A9 z c9 (l ++ [(⟨who, 0, 0⟩ : Us)])) := Lib.hid ⟨hrd, h91, h92, by unfold maxLen; omega⟩
        have HC2 := Lib.hid (s15_i (H.bonus A9 _ c9 _ who w12 UZ.out HW.out hz61) HBB.out)
        clear hlz hrd hz hz61
        have HBY := Lib.hid (HBZ.out.trans (hb.mono HBZ.out.size))
        have d3 : decide (bm ≥ bn) = true := decide_eq_true HBM.out
        have hq3 := HBM.out
        clear h91 h92 hon hb
        go_wp2_with fail
        refine HC2.out.mono ?_
        rintro e w13 ⟨rfl, hb⟩
        have HBX := Lib.hid (HBY.out.trans (hb.mono HBY.out.size))
        clear hb
        go_wp2
        go_ret
        exact ⟨rfl, HBX.out⟩

  · have UA := Lib.hid (hl.take (k := 60) (by omega))
    have HM2 : Hid (60 ≤ 60) := Lib.hid (Nat.le_refl _)
    obtain ⟨lm, hlm⟩ : ∃ lm, l.take 60 = lm := ⟨_, rfl⟩
    rw [hlm] at UA
    clear hl hw hlm
    obtain ⟨bn, hbn⟩ : ∃ bn, bonusU lm who = bn := ⟨_, rfl⟩
    obtain ⟨bm, hbm⟩ : ∃ bm, bonusU (lm ++ [(⟨who, 0, 0⟩ : Us)]) who = bm := ⟨_, rfl⟩
    have HBN := Lib.hid hbn
    have HBB := Lib.hid hbm
    have HBM : Hid (bn ≤ bm) := Lib.hid (by rw [← hbn, ← hbm]; exact bonus_more lm who)
    clear hbn hbm
    go_enter Try.func7, Try.ntmps7
    go_wp2_with fail
    refine (shareAwake H w).mono ?_
    rintro e w1 ⟨rfl, hb⟩
    have HBq := Lib.hid (HB.out.trans (hb.mono HB.out.size))
    clear HB
    have HB := HBq
    clear HBq
    have UAq := Lib.hid (UA.out.next hb)
    clear UA
    have UA := UAq
    clear UAq
    clear hb
    have hb := Below.alloc (Below.refl w1.heap.size w1) (Nat.le_refl _) (.cells #[.int .i64 0, .float .f64 ip, .float .f64 ig] 25)
    have BUq := Lib.hid (boxU_new w1 ⟨0, ip, ig⟩)
    have HBq := Lib.hid (HB.out.trans (hb.mono HB.out.size))
    clear HB
    have HB := HBq
    clear HBq
    have UAq := Lib.hid (UA.out.next hb)
    clear UA
    have UA := UAq
    clear UAq
    clear hb
    have BU := BUq
    clear BUq
    have HM1 := HMA.out
    have HM3 := HMB.out
    have HM4 := HMC.out
    go_wp2
    have HKEEP : Hid (∀ wx, Below (w1.alloc (.cells #[.int .i64 0, .float .f64 ip, .float .f64 ig] 25)).drew.heap.size (w1.alloc (.cells #[.int .i64 0, .float .f64 ip, .float .f64 ig] 25)).drew wx → wx.cell? ⟨w1.heap.size, 0, none⟩ = some (.int .i64 0) ∧ wx.cell? ⟨w1.heap.size, 1, none⟩ = some (.float .f64 ip) ∧ wx.cell? ⟨w1.heap.size, 2, none⟩ = some (.float .f64 ig)) := Lib.hid (fun wx hz' => by
      have hz := (bel_drew1 (w1.alloc (.cells #[.int .i64 0, .float .f64 ip, .float .f64 ig] 25))).trans (hz'.mono (bel_drew1 (w1.alloc (.cells #[.int .i64 0, .float .f64 ip, .float .f64 ig] 25))).size)
      exact ⟨keep_cell BU.out.lt BU.out.c0 hz, keep_cell BU.out.lt BU.out.c1 hz, keep_cell BU.out.lt BU.out.c2 hz⟩)
    have hd := bel_drew1 (w1.alloc (.cells #[.int .i64 0, .float .f64 ip, .float .f64 ig] 25))
    have HBq := Lib.hid (HB.out.trans (hd.mono HB.out.size))
    clear HB
    have HB := HBq
    clear HBq
    have UAq := Lib.hid (UA.out.next hd)
    clear UA
    have UA := UAq
    clear UAq
    have BUq := Lib.hid (BU.out.next hd)
    clear BU
    have BU := BUq
    clear BUq
    clear hd
    have HY := Lib.hid (Below.refl (w1.alloc (.cells #[.int .i64 0, .float .f64 ip, .float .f64 ig] 25)).drew.heap.size (w1.alloc (.cells #[.int .i64 0, .float .f64 ip, .float .f64 ig] 25)).drew)
    go_region_held3 (fun w' => w'.cell? ⟨w1.heap.size, 0, none⟩ = some (.int .i64 0) ∧ w'.cell? ⟨w1.heap.size, 1, none⟩ = some (.float .f64 ip) ∧ w'.cell? ⟨w1.heap.size, 2, none⟩ = some (.float .f64 ig))
      (first | exact HKEEP.out _ (Below.refl _ _) | exact HKEEP.out _ HY.out | exact HKEEP.out _ (HY.out.alloc HY.out.size _) | go_keep | fail)
      (first | (go_at_call 16; (with_reducible refine (HS1.out (w1.alloc (.cells #[.int .i64 0, .float .f64 ip, .float .f64 ig] 25)).drew).mono ?_); rintro e w2 ⟨rfl, hb⟩; have HY := Lib.hid (HY.out.trans (hb.mono HY.out.size)); have HB := Lib.hid (HB.out.trans (hb.mono HB.out.size)); have UA := Lib.hid (UA.out.next hb); have BU := Lib.hid (BU.out.next hb); clear hb) | (go_at_call 16; (with_reducible refine (HS2.out w2).mono ?_); rintro e w3 ⟨rfl, hb⟩; have HY := Lib.hid (HY.out.trans (hb.mono HY.out.size)); have HB := Lib.hid (HB.out.trans (hb.mono HB.out.size)); have UA := Lib.hid (UA.out.next hb); have BU := Lib.hid (BU.out.next hb); clear hb) | (go_at_call 9; (with_reducible refine (lawSame_self s1 w3).mono ?_); rintro e w4 ⟨rfl, hb⟩; have HY := Lib.hid (HY.out.trans (hb.mono HY.out.size)); have HB := Lib.hid (HB.out.trans (hb.mono HB.out.size)); have UA := Lib.hid (UA.out.next hb); have BU := Lib.hid (BU.out.next hb); clear hb) | (go_at_call 16; (with_reducible refine (HS3.out w4).mono ?_); rintro e w5 ⟨rfl, hb⟩; have HY := Lib.hid (HY.out.trans (hb.mono HY.out.size)); have HB := Lib.hid (HB.out.trans (hb.mono HB.out.size)); have UA := Lib.hid (UA.out.next hb); have BU := Lib.hid (BU.out.next hb); clear hb) | (go_at_call 16; (with_reducible refine (HS1.out w5).mono ?_); rintro e w6 ⟨rfl, hb⟩; have HY := Lib.hid (HY.out.trans (hb.mono HY.out.size)); have HB := Lib.hid (HB.out.trans (hb.mono HB.out.size)); have UA := Lib.hid (UA.out.next hb); have BU := Lib.hid (BU.out.next hb); clear hb) | fail)
    clear HKEEP HY
    clear HM1 HM3 HM4
    go_wp2
    go_loopw [15, 16] (fun cv iv wr => ∃ (k q : Nat), k ≤ 60 ∧ q ≤ k ∧ iv = .int .i64 k ∧ cv = .int .i64 q ∧ (lm.take k).countP (fun v => decide (v.who ≠ who)) = q ∧ UAsk wr A 60 c lm ∧ Below w.heap.size w wr) (fun _ iv _ => 60 - (intOf iv).toNat)
    case atStart => exact ⟨0, 0, Nat.zero_le _, Nat.le_refl _, rfl, rfl, rfl, UA.out, HB.out⟩
    case round =>
      obtain ⟨k, q, hk, hqk, rfl, rfl, hcn, hua, hb⟩ := hrel
      have UB := Lib.hid hua
      have HBZ := Lib.hid hb
      have HCN := Lib.hid hcn
      clear hua hb hcn
      by_cases hlt : k < 60
      · obtain ⟨b1, off, hA, hbl, ⟨e0, e1, e2⟩, hy⟩ := UB.out.one hlt
        subst hA
        have HST := Lib.hid (count_step (l := lm) (who := who) (k := k) (by rw [UB.out.len]; exact hlt))
        obtain ⟨v, ev⟩ : ∃ v, lm.getD k us0 = v := ⟨_, rfl⟩
        rw [ev] at e0 e1 e2 HST
        clear hy ev
        by_cases hvw : v.who = who
        · have dv : (v.who != who) = false := by rw [hvw]; exact bne_self_eq_false _
          have HS2' : Hid ((lm.take (k + 1)).countP (fun v => decide (v.who ≠ who)) = q) := Lib.hid (by rw [HST.out, HCN.out, decide_eq_false (not_not_intro hvw)]; rfl)
          clear hvw
          go_wp2
          go_roundw
          case rel => exact ⟨k + 1, q, by omega, by omega, by go_num, rfl, HS2'.out, UB.out, HBZ.out⟩
          case measure => simp [intOf] <;> omega
        · have dv : (v.who != who) = true := bne_iff_ne.2 hvw
          have HS2' : Hid ((lm.take (k + 1)).countP (fun v => decide (v.who ≠ who)) = q + 1) := Lib.hid (by rw [HST.out, HCN.out, decide_eq_true hvw]; rfl)
          clear hvw
          go_wp2
          go_roundw
          case rel => exact ⟨k + 1, q + 1, by omega, by omega, by go_num, by go_num, HS2'.out, UB.out, HBZ.out⟩
          case measure => simp [intOf] <;> omega
      · have HQB : Hid (bn ≤ q) := Lib.hid (by
          rw [← HBN.out]
          have h1 := bonus_le lm who
          have h2 := HCN.out
          rw [List.take_of_length_le (by rw [UB.out.len]; omega)] at h2
          rw [h2] at h1
          exact h1)
        have HC1 := Lib.hid (s15_i (H.bonus A 60 c lm who wr UB.out HW.out (by have := HM2.out; omega)) HBN.out)
        have HB0 : Hid (0 ≤ bn) := Lib.hid (by rw [← HBN.out]; exact bonus_nonneg lm who)
        go_wp2_with fail
        refine HC1.out.mono ?_
        rintro e w10 ⟨rfl, hb⟩
        have UBq := Lib.hid (UB.out.next hb)
        clear UB
        have UB := UBq
        clear UBq
        have HBZq := Lib.hid (HBZ.out.trans (hb.mono HBZ.out.size))
        clear HBZ
        have HBZ := HBZq
        clear HBZq
        clear hb HC1
        have d1 : decide (bn ≥ 0) = true := decide_eq_true HB0.out
        have d2 : decide (bn ≤ (q : Int)) = true := decide_eq_true HQB.out
        have hq0 := HB0.out
        have hq1 := HQB.out
        go_wp2_with (at_builtin; refine wpList_wanted rfl ?_; refine wpList_append_all rfl (.tmp 81) (.tmp 82) 33 rfl eu_steady (fun _ _ y vs hE u hu => by obtain ⟨rfl, _⟩ := hE; simp at hu; rcases hu with rfl | rfl | rfl <;> rfl) i0 (.agg #[.int .i64 0, .float .f64 0, .float .f64 0]) 24 Try.underlying33 hi0 hz0 hz1 hz2 rfl (by decide) rfl rfl UB.out.reads UB.out.nil UB.out.few (by have := HM2.out; omega) ?_; intro v11 w11 hon; refine Hid.out ?_)
        refine Lib.hid ?_
        have HON := Lib.hid hon
        clear hon
        go_wp2_with (at_builtin; refine wpList_wanted rfl ?_; refine wpList_append_ON rfl (.tmp 83) (.tmp 86) 33 rfl eu_steady HON.out i0 (.agg #[.int .i64 0, .float .f64 0, .float .f64 0]) 24 Try.underlying33 hi0 hz0 hz1 hz2 rfl (by decide) rfl ⟨who, 0, 0⟩ #[.int .i64 who, .float .f64 0, .float .f64 0] rfl rfl (by intro u hu; simp at hu; rcases hu with rfl | rfl | rfl <;> rfl) ⟨rfl, HWO.out⟩ (by have := UB.out.len; have := HM2.out; unfold maxLen; omega) (by have := UB.out.len; have := HM2.out; omega) ?_; intro v12 w12 hon; refine Hid.out ?_)
        refine Lib.hid ?_
        have hb := hon.below
        obtain ⟨A9, c9, hv, h91, h92⟩ := hon.form
        have hlz : (lm ++ [(⟨who, 0, 0⟩ : Us)]).length = 60 + 1 := by rw [List.length_append, UB.out.len, List.length_singleton]
        have hrd := hon.reads eu_steady (by simp) hv
        rw [hlz] at hv h92 hrd
        obtain ⟨z, hz⟩ : ∃ z, 60 + 1 = z := ⟨_, rfl⟩
        have hz61 : z ≤ 61 := by have := HM2.out; omega
        rw [hz] at hv h92 hrd
        subst hv
        have UZ : Hid (UAsk w12 A9 z c9 (lm ++ [(⟨who, 0, 0⟩ : Us)])) := Lib.hid ⟨hrd, h91, h92, by unfold maxLen; omega⟩
        have HC2 := Lib.hid (s15_i (H.bonus A9 _ c9 _ who w12 UZ.out HW.out hz61) HBB.out)
        clear hlz hrd hz hz61
        have HBY := Lib.hid (HBZ.out.trans (hb.mono HBZ.out.size))
        have d3 : decide (bm ≥ bn) = true := decide_eq_true HBM.out
        have hq3 := HBM.out
        clear h91 h92 hon hb
        go_wp2_with fail
        refine HC2.out.mono ?_
        rintro e w13 ⟨rfl, hb⟩
        have HBX := Lib.hid (HBY.out.trans (hb.mono HBY.out.size))
        clear hb
        go_wp2
        go_ret
        exact ⟨rfl, HBX.out⟩


end Go.Proofs.Ytaehhafdodoljaa
