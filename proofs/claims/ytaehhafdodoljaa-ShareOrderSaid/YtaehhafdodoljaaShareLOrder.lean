/- The walk of the statement ShareOrder of layer 15, over the program's contracts. Written by gen/gen_share.py. -/
import Derived.Test.YtaehhafdodoljaaShareAwake
import Derived.Deep.RegionHeld3
import Derived.Test.YtaehhafdodoljaaLater
import Derived.Test.YtaehhafdodoljaaMadeF
namespace Go.Proofs.Ytaehhafdodoljaa
open Go.RowKit

structure OrdOk (l : List Us) (m : Nat) (ol : List Nat) : Prop where
  len : ol.length = m
  nodup : ol.Nodup
  mem : ∀ y ∈ ol, y < m
  shares : ∀ i j x y : Nat, ol[i]? = some x → ol[j]? = some y → i < j → shareU (l.getD x us0) ≤ shareU (l.getD y us0)
theorem ordOk (l : List Us) (m : Nat) : OrdOk l m (ordN l m) := ⟨ord_length l m, ord_nodup l m, fun _ h => List.mem_range.1 ((ord_perm l m).mem_iff.1 h), fun _ _ _ _ hx hy h => ord_shares hx hy h⟩
theorem nodup_take {l : List Nat} {k y : Nat} (hn : l.Nodup) (hy : l[k]? = some y) : y ∉ l.take k := by
  intro hm
  obtain ⟨j, hj, he⟩ := List.getElem_of_mem hm
  rw [List.length_take] at hj
  rw [List.getElem_take] at he
  have hk := (List.getElem?_eq_some_iff.1 hy)
  have := (List.getElem_inj (h₀ := by omega) (h₁ := hk.1) hn).1 (he.trans hk.2.symm)
  omega
theorem take_mem_succ {l : List Nat} {k y j : Nat} (hy : l[k]? = some y) : decide (j ∈ l.take (k + 1)) = decide (j ∈ l.take k ∨ j = y) := by
  have hk := (List.getElem?_eq_some_iff.1 hy)
  refine decide_eq_decide.2 ?_
  rw [List.take_succ_eq_append_getElem hk.1, List.mem_append, List.mem_singleton, hk.2]
set_option maxRecDepth 100000 in
set_option maxHeartbeats 8000000 in
theorem shareOrder_walk (H : ShareOk) (A : Option Addr) (n c : Nat) (l : List Us) (w : World) (hl : UAsk w A n c l) :
    Calls Try.prog 5 #[.slice A n c] w fun e w' => e = .returned (.bool true) ∧ Below w.heap.size w w' := by
  obtain ⟨i0, hi0, hz0, hz1, hz2⟩ : ∃ i, Try.prog.info? 4 = some i ∧ i.zero = some (.bool false) ∧ i.size = 1 ∧ i.bytes = 1 := info_parts (by kernel_rfl)
  have HB := Lib.hid (Below.refl w.heap.size w)
  have hcap := hl.cap
  by_cases h2 : n ≤ 60
  · have UA := Lib.hid hl
    have HM2 : Hid (n ≤ 60) := Lib.hid h2
    obtain ⟨o, ho⟩ : ∃ o, orderU l = o := ⟨_, rfl⟩
    have HO := Lib.hid ho
    have HOL : Hid (o.length = n) := Lib.hid (by rw [← ho, orderU_length, hl.len])
    have hon : o = (ordN l n).map (Int.ofNat ·) := by rw [← ho]; unfold orderU; rw [hl.len]
    obtain ⟨ol, hoo, hol⟩ : ∃ ol, OrdOk l n ol ∧ ordN l n = ol := ⟨_, ordOk l n, rfl⟩
    rw [hol] at hon
    have HON := Lib.hid hon
    have HOO := Lib.hid hoo
    clear hon hoo hol
    clear hl ho
    go_enter Try.func5, Try.ntmps5
    go_wp2_with fail
    refine (shareAwake H w).mono ?_
    rintro e w1 ⟨rfl, hb⟩
    have HBq := Lib.hid (HB.out.trans (hb.mono HB.out.size))
    clear HB
    have HB := HBq
    clear HBq
    have UAq := Lib.hid (UA.out.next hb)
    clear UA
    have UA := UAq
    clear UAq
    clear hb
    go_wp2_with fail
    refine (s15_o (H.order A n c l w1 UA.out (by have := HM2.out; omega)) HO.out).mono ?_
    rintro e w2 ⟨⟨A1, c1, rfl, hr1, hn1, hc1⟩, hb⟩
    rw [HOL.out] at hr1 ⊢
    have HBq := Lib.hid (HB.out.trans (hb.mono HB.out.size))
    clear HB
    have HB := HBq
    clear HBq
    have UAq := Lib.hid (UA.out.next hb)
    clear UA
    have UA := UAq
    clear UAq
    clear hb
    have R1 := Lib.hid hr1
    clear hr1 hn1 hc1
    go_wp2_with (at_make; refine wpList_make_full _ rfl _ _ 39 rfl w2.heap.size 4 i0 (.bool false) 1 Try.underlying39 hi0 hz0 hz1 .i64 .i64 _ _ n rfl rfl rfl rfl (by rw [hz2]; have := HM2.out; omega) (by have := HM2.out; unfold maxLen; omega) (Nat.le_refl _) ?_; intro w3 hown hgrow; refine Hid.out ?_)
    refine Lib.hid ?_
    have HM := Lib.hid (MF.made hown hgrow)
    clear hown hgrow
    go_wp2
    go_loopw [5] (fun iv wr => ∃ (k : Nat) (V : Nat → Value), k ≤ n ∧ iv = .int .i64 k ∧ MF 4 w2 w2.heap.size n V wr ∧ (∀ j, V j = .bool (decide (j ∈ ol.take k)))) (fun iv _ => n - (intOf iv).toNat)
    case atStart => exact ⟨0, _, Nat.zero_le _, rfl, HM.out, fun j => by simp⟩
    case round =>
      obtain ⟨k, V, hk, rfl, hmf, hv⟩ := hrel
      have HMF := Lib.hid hmf
      have HV := Lib.hid hv
      have hbw := hmf.below
      clear hmf hv HM
      by_cases hlt : k < n
      · obtain ⟨y, hy⟩ : ∃ y, ol[k]? = some y := ⟨_, List.getElem?_eq_getElem (by rw [HOO.out.len]; exact hlt)⟩
        have hym : y < n := HOO.out.mem y (List.mem_of_getElem? hy)
        have hoy : o.getD k 0 = (y : Int) := by
          have := HON.out
          rw [this, List.getD, List.getElem?_map, hy]; rfl
        have hV : V y = .bool false := by
          rw [HV.out y]
          congr 1
          exact decide_eq_false (fun hm => nodup_take HOO.out.nodup hy hm)
        have HV2 : Hid (∀ j, (fun j => if j = y then Value.bool true else V j) j = .bool (decide (j ∈ ol.take (k + 1)))) := Lib.hid (fun j => by
          show (if j = y then Value.bool true else V j) = _
          rw [take_mem_succ hy]
          by_cases hjy : j = y
          · rw [if_pos hjy, decide_eq_true (Or.inr hjy)]
          · rw [if_neg hjy, HV.out j]; congr 1; simp [hjy])
        obtain ⟨bo, oo, hA1, hbo, hco⟩ := (R1.out.next hbw).2 (by omega)
        have hc0 := hco k hlt
        rw [hoy] at hc0
        clear hco
        have hcV := HMF.out.cell hym
        rw [hV] at hcV
        have hfz := HMF.out.frozen (k := y)
        have HMS := Lib.hid (HMF.out.set (.bool true) hym)
        subst hA1
        have hbs := HMS.out.below
        have US := Lib.hid (UA.out.next hbs)
        have HBS := Lib.hid (HB.out.trans (hbs.mono HB.out.size))
        obtain ⟨bo', oo', hA1', hbo', hco'⟩ := (R1.out.next hbs).2 (by omega)
        injection hA1' with hA1'
        injection hA1' with x1 x2 _
        subst x1 x2
        have hs0 := hco' k hlt
        rw [hoy] at hs0
        clear hco'
        obtain ⟨b, off, hA, hbl, ⟨e0, e1, e2⟩, hu⟩ := US.out.one hym
        subst hA
        obtain ⟨u, eu⟩ : ∃ u, l.getD y us0 = u := ⟨_, rfl⟩
        rw [eu] at e0 e1 e2 hu
        have HU := Lib.hid hu
        have g1 : (FloatKind.f64.format.order (shareU u) 0 == some Ordering.gt || FloatKind.f64.format.order (shareU u) 0 == some Ordering.eq) = true := by
          rw [fgr (shareU_le u) (by decide), feq (shareU_le u) (by decide)]
          by_cases h0 : shareU u = 0
          · simp [h0]
          · simp [h0]; omega
        have d1 : decide ((y : Int) < 0) = false := decide_eq_false (by omega)
        have d2 : decide (n ≤ y) = false := decide_eq_false (by omega)
        by_cases hk0 : k = 0
        · have dk : decide (0 < k) = false := decide_eq_false (by omega)
          have dk' : decide ((k : Int) > 0) = false := decide_eq_false (by omega)
          clear hk0 hoy hV hu eu
          go_wp2_with fail
          refine (H.share _ _ HU.out).mono ?_
          rintro e w5 ⟨rfl, hb⟩
          have HMT := Lib.hid (HMS.out.next hb)
          clear hb
          go_wp2
          go_roundw
          case rel => exact ⟨k + 1, _, by omega, by go_num, HMT.out, HV2.out⟩
          case measure => simp [intOf] <;> omega
        · have dk : decide (0 < k) = true := decide_eq_true (by omega)
          have dk' : decide ((k : Int) > 0) = true := decide_eq_true (by omega)
          obtain ⟨k', hk'⟩ : ∃ k', k' + 1 = k := ⟨k - 1, by omega⟩
          have hkk : (k : Int) - 1 = (k' : Int) := by omega
          obtain ⟨z, hz⟩ : ∃ z, ol[k']? = some z := ⟨_, List.getElem?_eq_getElem (by rw [HOO.out.len]; omega)⟩
          have hzm : z < n := HOO.out.mem z (List.mem_of_getElem? hz)
          have hoz : o.getD k' 0 = (z : Int) := by
            have := HON.out
            rw [this, List.getD, List.getElem?_map, hz]; rfl
          obtain ⟨v, ev⟩ : ∃ v, l.getD z us0 = v := ⟨_, rfl⟩
          have HSL : Hid (shareU v ≤ shareU u) := Lib.hid (by rw [← eu, ← ev]; exact HOO.out.shares k' k z y hz hy (by omega))
          have g2 : (FloatKind.f64.format.order (shareU u) (shareU v) == some Ordering.lt) = false := by
            rw [flt (shareU_le u) (shareU_le v)]
            exact decide_eq_false (Nat.not_lt.2 HSL.out)
          have HEV := Lib.hid ev
          have HOZ := Lib.hid hoz
          have hk1m : k' < n := by omega
          clear hk0 hoy hV hu eu hz hy hoz ev
          go_wp2_with fail
          refine (H.share _ _ HU.out).mono ?_
          rintro e w5 ⟨rfl, hb⟩
          have HMT := Lib.hid (HMS.out.next hb)
          clear hb e0 e1 e2 hs0 hc0
          have hbt := HMT.out.below
          have UT := Lib.hid (UA.out.next hbt)
          obtain ⟨bo', oo', hA1', hbo'', hct⟩ := (R1.out.next hbt).2 (by omega)
          injection hA1' with hA1'
          injection hA1' with x1 x2 _
          subst x1 x2
          have ht0 := hct k' hk1m
          rw [HOZ.out] at ht0
          clear hct
          obtain ⟨b', off', hA', hbl', ⟨e0, e1, e2⟩, hu⟩ := UT.out.one hzm
          injection hA' with hA'
          injection hA' with x1 x2 _
          subst x1 x2
          rw [HEV.out] at e0 e1 e2 hu
          have HVV := Lib.hid hu
          clear hu
          go_wp2_with fail
          refine (H.share _ _ HVV.out).mono ?_
          rintro e w6 ⟨rfl, hb⟩
          have HMU := Lib.hid (HMT.out.next hb)
          clear hb
          go_wp2
          go_roundw
          case rel => exact ⟨k + 1, _, by omega, by go_num, HMU.out, HV2.out⟩
          case measure => simp [intOf] <;> omega
      · have HBZ := Lib.hid (HB.out.trans (hbw.mono HB.out.size))
        go_wp2
        go_ret
        exact ⟨rfl, HBZ.out⟩

  · have UA := Lib.hid (hl.take (k := 60) (by omega))
    have HM2 : Hid (60 ≤ 60) := Lib.hid (Nat.le_refl _)
    obtain ⟨lm, hlm⟩ : ∃ lm, l.take 60 = lm := ⟨_, rfl⟩
    rw [hlm] at UA
    obtain ⟨o, ho⟩ : ∃ o, orderU lm = o := ⟨_, rfl⟩
    have HO := Lib.hid ho
    have HOL : Hid (o.length = 60) := Lib.hid (by rw [← ho, orderU_length, UA.out.len])
    have hon : o = (ordN lm 60).map (Int.ofNat ·) := by rw [← ho]; unfold orderU; rw [UA.out.len]
    obtain ⟨ol, hoo, hol⟩ : ∃ ol, OrdOk lm 60 ol ∧ ordN lm 60 = ol := ⟨_, ordOk lm 60, rfl⟩
    rw [hol] at hon
    have HON := Lib.hid hon
    have HOO := Lib.hid hoo
    clear hon hoo hol
    clear hl ho hlm
    go_enter Try.func5, Try.ntmps5
    go_wp2_with fail
    refine (shareAwake H w).mono ?_
    rintro e w1 ⟨rfl, hb⟩
    have HBq := Lib.hid (HB.out.trans (hb.mono HB.out.size))
    clear HB
    have HB := HBq
    clear HBq
    have UAq := Lib.hid (UA.out.next hb)
    clear UA
    have UA := UAq
    clear UAq
    clear hb
    go_wp2_with fail
    refine (s15_o (H.order A 60 c lm w1 UA.out (by have := HM2.out; omega)) HO.out).mono ?_
    rintro e w2 ⟨⟨A1, c1, rfl, hr1, hn1, hc1⟩, hb⟩
    rw [HOL.out] at hr1 ⊢
    have HBq := Lib.hid (HB.out.trans (hb.mono HB.out.size))
    clear HB
    have HB := HBq
    clear HBq
    have UAq := Lib.hid (UA.out.next hb)
    clear UA
    have UA := UAq
    clear UAq
    clear hb
    have R1 := Lib.hid hr1
    clear hr1 hn1 hc1
    go_wp2_with (at_make; refine wpList_make_full _ rfl _ _ 39 rfl w2.heap.size 4 i0 (.bool false) 1 Try.underlying39 hi0 hz0 hz1 .i64 .i64 _ _ 60 rfl rfl rfl rfl (by rw [hz2]; have := HM2.out; omega) (by have := HM2.out; unfold maxLen; omega) (Nat.le_refl _) ?_; intro w3 hown hgrow; refine Hid.out ?_)
    refine Lib.hid ?_
    have HM := Lib.hid (MF.made hown hgrow)
    clear hown hgrow
    go_wp2
    go_loopw [5] (fun iv wr => ∃ (k : Nat) (V : Nat → Value), k ≤ 60 ∧ iv = .int .i64 k ∧ MF 4 w2 w2.heap.size 60 V wr ∧ (∀ j, V j = .bool (decide (j ∈ ol.take k)))) (fun iv _ => 60 - (intOf iv).toNat)
    case atStart => exact ⟨0, _, Nat.zero_le _, rfl, HM.out, fun j => by simp⟩
    case round =>
      obtain ⟨k, V, hk, rfl, hmf, hv⟩ := hrel
      have HMF := Lib.hid hmf
      have HV := Lib.hid hv
      have hbw := hmf.below
      clear hmf hv HM
      by_cases hlt : k < 60
      · obtain ⟨y, hy⟩ : ∃ y, ol[k]? = some y := ⟨_, List.getElem?_eq_getElem (by rw [HOO.out.len]; exact hlt)⟩
        have hym : y < 60 := HOO.out.mem y (List.mem_of_getElem? hy)
        have hoy : o.getD k 0 = (y : Int) := by
          have := HON.out
          rw [this, List.getD, List.getElem?_map, hy]; rfl
        have hV : V y = .bool false := by
          rw [HV.out y]
          congr 1
          exact decide_eq_false (fun hm => nodup_take HOO.out.nodup hy hm)
        have HV2 : Hid (∀ j, (fun j => if j = y then Value.bool true else V j) j = .bool (decide (j ∈ ol.take (k + 1)))) := Lib.hid (fun j => by
          show (if j = y then Value.bool true else V j) = _
          rw [take_mem_succ hy]
          by_cases hjy : j = y
          · rw [if_pos hjy, decide_eq_true (Or.inr hjy)]
          · rw [if_neg hjy, HV.out j]; congr 1; simp [hjy])
        obtain ⟨bo, oo, hA1, hbo, hco⟩ := (R1.out.next hbw).2 (by omega)
        have hc0 := hco k hlt
        rw [hoy] at hc0
        clear hco
        have hcV := HMF.out.cell hym
        rw [hV] at hcV
        have hfz := HMF.out.frozen (k := y)
        have HMS := Lib.hid (HMF.out.set (.bool true) hym)
        subst hA1
        have hbs := HMS.out.below
        have US := Lib.hid (UA.out.next hbs)
        have HBS := Lib.hid (HB.out.trans (hbs.mono HB.out.size))
        obtain ⟨bo', oo', hA1', hbo', hco'⟩ := (R1.out.next hbs).2 (by omega)
        injection hA1' with hA1'
        injection hA1' with x1 x2 _
        subst x1 x2
        have hs0 := hco' k hlt
        rw [hoy] at hs0
        clear hco'
        obtain ⟨b, off, hA, hbl, ⟨e0, e1, e2⟩, hu⟩ := US.out.one hym
        subst hA
        obtain ⟨u, eu⟩ : ∃ u, lm.getD y us0 = u := ⟨_, rfl⟩
        rw [eu] at e0 e1 e2 hu
        have HU := Lib.hid hu
        have g1 : (FloatKind.f64.format.order (shareU u) 0 == some Ordering.gt || FloatKind.f64.format.order (shareU u) 0 == some Ordering.eq) = true := by
          rw [fgr (shareU_le u) (by decide), feq (shareU_le u) (by decide)]
          by_cases h0 : shareU u = 0
          · simp [h0]
          · simp [h0]; omega
        have d1 : decide ((y : Int) < 0) = false := decide_eq_false (by omega)
        have d2 : decide (60 ≤ y) = false := decide_eq_false (by omega)
        by_cases hk0 : k = 0
        · have dk : decide (0 < k) = false := decide_eq_false (by omega)
          have dk' : decide ((k : Int) > 0) = false := decide_eq_false (by omega)
          clear hk0 hoy hV hu eu
          go_wp2_with fail
          refine (H.share _ _ HU.out).mono ?_
          rintro e w5 ⟨rfl, hb⟩
          have HMT := Lib.hid (HMS.out.next hb)
          clear hb
          go_wp2
          go_roundw
          case rel => exact ⟨k + 1, _, by omega, by go_num, HMT.out, HV2.out⟩
          case measure => simp [intOf] <;> omega
        · have dk : decide (0 < k) = true := decide_eq_true (by omega)
          have dk' : decide ((k : Int) > 0) = true := decide_eq_true (by omega)
          obtain ⟨k', hk'⟩ : ∃ k', k' + 1 = k := ⟨k - 1, by omega⟩
          have hkk : (k : Int) - 1 = (k' : Int) := by omega
          obtain ⟨z, hz⟩ : ∃ z, ol[k']? = some z := ⟨_, List.getElem?_eq_getElem (by rw [HOO.out.len]; omega)⟩
          have hzm : z < 60 := HOO.out.mem z (List.mem_of_getElem? hz)
          have hoz : o.getD k' 0 = (z : Int) := by
            have := HON.out
            rw [this, List.getD, List.getElem?_map, hz]; rfl
          obtain ⟨v, ev⟩ : ∃ v, lm.getD z us0 = v := ⟨_, rfl⟩
          have HSL : Hid (shareU v ≤ shareU u) := Lib.hid (by rw [← eu, ← ev]; exact HOO.out.shares k' k z y hz hy (by omega))
          have g2 : (FloatKind.f64.format.order (shareU u) (shareU v) == some Ordering.lt) = false := by
            rw [flt (shareU_le u) (shareU_le v)]
            exact decide_eq_false (Nat.not_lt.2 HSL.out)
          have HEV := Lib.hid ev
          have HOZ := Lib.hid hoz
          have hk1m : k' < 60 := by omega
          clear hk0 hoy hV hu eu hz hy hoz ev
          go_wp2_with fail
          refine (H.share _ _ HU.out).mono ?_
          rintro e w5 ⟨rfl, hb⟩
          have HMT := Lib.hid (HMS.out.next hb)
          clear hb e0 e1 e2 hs0 hc0
          have hbt := HMT.out.below
          have UT := Lib.hid (UA.out.next hbt)
          obtain ⟨bo', oo', hA1', hbo'', hct⟩ := (R1.out.next hbt).2 (by omega)
          injection hA1' with hA1'
          injection hA1' with x1 x2 _
          subst x1 x2
          have ht0 := hct k' hk1m
          rw [HOZ.out] at ht0
          clear hct
          obtain ⟨b', off', hA', hbl', ⟨e0, e1, e2⟩, hu⟩ := UT.out.one hzm
          injection hA' with hA'
          injection hA' with x1 x2 _
          subst x1 x2
          rw [HEV.out] at e0 e1 e2 hu
          have HVV := Lib.hid hu
          clear hu
          go_wp2_with fail
          refine (H.share _ _ HVV.out).mono ?_
          rintro e w6 ⟨rfl, hb⟩
          have HMU := Lib.hid (HMT.out.next hb)
          clear hb
          go_wp2
          go_roundw
          case rel => exact ⟨k + 1, _, by omega, by go_num, HMU.out, HV2.out⟩
          case measure => simp [intOf] <;> omega
      · have HBZ := Lib.hid (HB.out.trans (hbw.mono HB.out.size))
        go_wp2
        go_ret
        exact ⟨rfl, HBZ.out⟩


end Go.Proofs.Ytaehhafdodoljaa
