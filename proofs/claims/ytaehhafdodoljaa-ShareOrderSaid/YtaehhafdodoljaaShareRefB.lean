/- The reference's ahead, Order, Bonus of layer 15. Written by gen/gen_share.py. -/
import Derived.Test.YtaehhafdodoljaaShareRefA
import Derived.Test.YtaehhafdodoljaaMadeF
import Derived.Test.YtaehhafdodoljaaNums
import Derived.Deep.QuietTactic
namespace Go.Proofs.Ytaehhafdodoljaa
open Go.RowKit

set_option maxRecDepth 100000 in
set_option maxHeartbeats 8000000 in
theorem refAhead_any (A : Option Addr) (n c0 : Nat) (l : List Us) (a c : Nat) (w : World) (hl : UAsk w A n c0 l) (ha : a < n) (hc : c < n) : Calls Try.prog 33 #[.slice A n c0, .int .i64 a, .int .i64 c] w fun e w' => e = .returned (.bool (aheadU l a c)) ∧ Below w.heap.size w w' := by
  obtain ⟨b, off, rfl, hbl, ⟨e0, e1, e2⟩, hu⟩ := hl.one ha
  obtain ⟨b', off', he', hbl', ⟨f0, f1, f2⟩, hv⟩ := hl.one hc
  injection he' with he'
  injection he' with hb' ho' _
  subst hb' ho'
  clear hbl'
  have hah : aheadU l a c = (if shareU (l.getD a us0) ≠ shareU (l.getD c us0) then decide (shareU (l.getD a us0) < shareU (l.getD c us0)) else if (l.getD a us0).who ≠ (l.getD c us0).who then decide ((l.getD a us0).who < (l.getD c us0).who) else decide (a < c)) := rfl
  rw [hah]
  have UA := Lib.hid hl
  have HB := Lib.hid (Below.refl w.heap.size w)
  obtain ⟨u, eu⟩ : ∃ u, l.getD a us0 = u := ⟨_, rfl⟩
  obtain ⟨v, ev⟩ : ∃ v, l.getD c us0 = v := ⟨_, rfl⟩
  rw [eu] at e0 e1 e2 hu ⊢
  rw [ev] at f0 f1 f2 hv ⊢
  have HU := Lib.hid hu
  have HV := Lib.hid hv
  have HMX := hl.few
  unfold maxLen at HMX
  clear hah eu ev hu hv hl
  have hne := fne (shareU_le u) (shareU_le v)
  have hlt := flt (shareU_le u) (shareU_le v)
  by_cases h1 : shareU u = shareU v
  · rw [if_neg (not_not_intro h1)]
    have d1 : (FloatKind.f64.format.order (shareU u) (shareU v) != some Ordering.eq) = false := by rw [hne]; exact decide_eq_false (not_not_intro h1)
    clear h1 hne hlt
    by_cases h2 : u.who = v.who
    · rw [if_neg (not_not_intro h2)]
      have d2 : (u.who != v.who) = false := by rw [h2]; exact bne_self_eq_false _
      clear h2
      go_enter Try.func33, Try.ntmps33
      go_wp2
      have HKEEP : Hid (∀ wx, Below w.drew.heap.size w.drew wx → wx.cell? ⟨b, off + a * 3, none⟩ = some (.int .i64 u.who) ∧ wx.cell? ⟨b, off + a * 3 + 1, none⟩ = some (.float .f64 u.had) ∧ wx.cell? ⟨b, off + a * 3 + 2, none⟩ = some (.float .f64 u.weight) ∧ wx.cell? ⟨b, off + c * 3, none⟩ = some (.int .i64 v.who) ∧ wx.cell? ⟨b, off + c * 3 + 1, none⟩ = some (.float .f64 v.had) ∧ wx.cell? ⟨b, off + c * 3 + 2, none⟩ = some (.float .f64 v.weight)) := Lib.hid (fun wx hz' => by
        have hz := (bel_drew1 w).trans (hz'.mono (bel_drew1 w).size)
        exact ⟨keep_cell hbl e0 hz, keep_cell hbl e1 hz, keep_cell hbl e2 hz, keep_cell hbl f0 hz, keep_cell hbl f1 hz, keep_cell hbl f2 hz⟩)
      have hd := bel_drew1 w
      have HBq := Lib.hid (HB.out.trans (hd.mono HB.out.size))
      clear HB
      have HB := HBq
      clear HBq
      have UAq := Lib.hid (UA.out.next hd)
      clear UA
      have UA := UAq
      clear UAq
      clear hd
      have HY := Lib.hid (Below.refl w.drew.heap.size w.drew)
      go_region_held3 (fun w' => w'.cell? ⟨b, off + a * 3, none⟩ = some (.int .i64 u.who) ∧ w'.cell? ⟨b, off + a * 3 + 1, none⟩ = some (.float .f64 u.had) ∧ w'.cell? ⟨b, off + a * 3 + 2, none⟩ = some (.float .f64 u.weight) ∧ w'.cell? ⟨b, off + c * 3, none⟩ = some (.int .i64 v.who) ∧ w'.cell? ⟨b, off + c * 3 + 1, none⟩ = some (.float .f64 v.had) ∧ w'.cell? ⟨b, off + c * 3 + 2, none⟩ = some (.float .f64 v.weight))
        (first | exact HKEEP.out _ (Below.refl _ _) | exact HKEEP.out _ HY.out | exact HKEEP.out _ (HY.out.alloc HY.out.size _) | go_keep | fail)
        (first | (go_at_call 17; (with_reducible refine (refShare_any u w.drew HU.out).mono ?_); rintro e w1 ⟨rfl, hb⟩; have HY := Lib.hid (HY.out.trans (hb.mono HY.out.size)); have HB := Lib.hid (HB.out.trans (hb.mono HB.out.size)); have UA := Lib.hid (UA.out.next hb); clear hb) | (go_at_call 17; (with_reducible refine (refShare_any v w1 HV.out).mono ?_); rintro e w2 ⟨rfl, hb⟩; have HY := Lib.hid (HY.out.trans (hb.mono HY.out.size)); have HB := Lib.hid (HB.out.trans (hb.mono HB.out.size)); have UA := Lib.hid (UA.out.next hb); clear hb) | fail)
      clear HKEEP HY
      have e0 := keep_cell hbl e0 HB.out
      have f0 := keep_cell hbl f0 HB.out
      go_wp2
      go_quiet (fail)
      go_wp2
      go_ret
      exact ⟨rfl, bel_more HB.out _⟩
    · rw [if_pos h2]
      have d2 : (u.who != v.who) = true := bne_iff_ne.2 h2
      clear h2
      go_enter Try.func33, Try.ntmps33
      go_wp2
      have HKEEP : Hid (∀ wx, Below w.drew.heap.size w.drew wx → wx.cell? ⟨b, off + a * 3, none⟩ = some (.int .i64 u.who) ∧ wx.cell? ⟨b, off + a * 3 + 1, none⟩ = some (.float .f64 u.had) ∧ wx.cell? ⟨b, off + a * 3 + 2, none⟩ = some (.float .f64 u.weight) ∧ wx.cell? ⟨b, off + c * 3, none⟩ = some (.int .i64 v.who) ∧ wx.cell? ⟨b, off + c * 3 + 1, none⟩ = some (.float .f64 v.had) ∧ wx.cell? ⟨b, off + c * 3 + 2, none⟩ = some (.float .f64 v.weight)) := Lib.hid (fun wx hz' => by
        have hz := (bel_drew1 w).trans (hz'.mono (bel_drew1 w).size)
        exact ⟨keep_cell hbl e0 hz, keep_cell hbl e1 hz, keep_cell hbl e2 hz, keep_cell hbl f0 hz, keep_cell hbl f1 hz, keep_cell hbl f2 hz⟩)
      have hd := bel_drew1 w
      have HBq := Lib.hid (HB.out.trans (hd.mono HB.out.size))
      clear HB
      have HB := HBq
      clear HBq
      have UAq := Lib.hid (UA.out.next hd)
      clear UA
      have UA := UAq
      clear UAq
      clear hd
      have HY := Lib.hid (Below.refl w.drew.heap.size w.drew)
      go_region_held3 (fun w' => w'.cell? ⟨b, off + a * 3, none⟩ = some (.int .i64 u.who) ∧ w'.cell? ⟨b, off + a * 3 + 1, none⟩ = some (.float .f64 u.had) ∧ w'.cell? ⟨b, off + a * 3 + 2, none⟩ = some (.float .f64 u.weight) ∧ w'.cell? ⟨b, off + c * 3, none⟩ = some (.int .i64 v.who) ∧ w'.cell? ⟨b, off + c * 3 + 1, none⟩ = some (.float .f64 v.had) ∧ w'.cell? ⟨b, off + c * 3 + 2, none⟩ = some (.float .f64 v.weight))
        (first | exact HKEEP.out _ (Below.refl _ _) | exact HKEEP.out _ HY.out | exact HKEEP.out _ (HY.out.alloc HY.out.size _) | go_keep | fail)
        (first | (go_at_call 17; (with_reducible refine (refShare_any u w.drew HU.out).mono ?_); rintro e w1 ⟨rfl, hb⟩; have HY := Lib.hid (HY.out.trans (hb.mono HY.out.size)); have HB := Lib.hid (HB.out.trans (hb.mono HB.out.size)); have UA := Lib.hid (UA.out.next hb); clear hb) | (go_at_call 17; (with_reducible refine (refShare_any v w1 HV.out).mono ?_); rintro e w2 ⟨rfl, hb⟩; have HY := Lib.hid (HY.out.trans (hb.mono HY.out.size)); have HB := Lib.hid (HB.out.trans (hb.mono HB.out.size)); have UA := Lib.hid (UA.out.next hb); clear hb) | fail)
      clear HKEEP HY
      have e0 := keep_cell hbl e0 HB.out
      have f0 := keep_cell hbl f0 HB.out
      go_wp2
      go_quiet (fail)
      go_wp2
      go_quiet (fail)
      go_wp2
      go_ret
      exact ⟨rfl, bel_more (bel_more HB.out _) _⟩
  · rw [if_pos h1]
    have d1 : (FloatKind.f64.format.order (shareU u) (shareU v) != some Ordering.eq) = true := by rw [hne]; exact decide_eq_true h1
    clear h1 hne
    go_enter Try.func33, Try.ntmps33
    go_wp2
    have HKEEP : Hid (∀ wx, Below w.drew.heap.size w.drew wx → wx.cell? ⟨b, off + a * 3, none⟩ = some (.int .i64 u.who) ∧ wx.cell? ⟨b, off + a * 3 + 1, none⟩ = some (.float .f64 u.had) ∧ wx.cell? ⟨b, off + a * 3 + 2, none⟩ = some (.float .f64 u.weight) ∧ wx.cell? ⟨b, off + c * 3, none⟩ = some (.int .i64 v.who) ∧ wx.cell? ⟨b, off + c * 3 + 1, none⟩ = some (.float .f64 v.had) ∧ wx.cell? ⟨b, off + c * 3 + 2, none⟩ = some (.float .f64 v.weight)) := Lib.hid (fun wx hz' => by
      have hz := (bel_drew1 w).trans (hz'.mono (bel_drew1 w).size)
      exact ⟨keep_cell hbl e0 hz, keep_cell hbl e1 hz, keep_cell hbl e2 hz, keep_cell hbl f0 hz, keep_cell hbl f1 hz, keep_cell hbl f2 hz⟩)
    have hd := bel_drew1 w
    have HBq := Lib.hid (HB.out.trans (hd.mono HB.out.size))
    clear HB
    have HB := HBq
    clear HBq
    have UAq := Lib.hid (UA.out.next hd)
    clear UA
    have UA := UAq
    clear UAq
    clear hd
    have HY := Lib.hid (Below.refl w.drew.heap.size w.drew)
    go_region_held3 (fun w' => w'.cell? ⟨b, off + a * 3, none⟩ = some (.int .i64 u.who) ∧ w'.cell? ⟨b, off + a * 3 + 1, none⟩ = some (.float .f64 u.had) ∧ w'.cell? ⟨b, off + a * 3 + 2, none⟩ = some (.float .f64 u.weight) ∧ w'.cell? ⟨b, off + c * 3, none⟩ = some (.int .i64 v.who) ∧ w'.cell? ⟨b, off + c * 3 + 1, none⟩ = some (.float .f64 v.had) ∧ w'.cell? ⟨b, off + c * 3 + 2, none⟩ = some (.float .f64 v.weight))
      (first | exact HKEEP.out _ (Below.refl _ _) | exact HKEEP.out _ HY.out | exact HKEEP.out _ (HY.out.alloc HY.out.size _) | go_keep | fail)
      (first | (go_at_call 17; (with_reducible refine (refShare_any u w.drew HU.out).mono ?_); rintro e w1 ⟨rfl, hb⟩; have HY := Lib.hid (HY.out.trans (hb.mono HY.out.size)); have HB := Lib.hid (HB.out.trans (hb.mono HB.out.size)); have UA := Lib.hid (UA.out.next hb); clear hb) | (go_at_call 17; (with_reducible refine (refShare_any v w1 HV.out).mono ?_); rintro e w2 ⟨rfl, hb⟩; have HY := Lib.hid (HY.out.trans (hb.mono HY.out.size)); have HB := Lib.hid (HB.out.trans (hb.mono HB.out.size)); have UA := Lib.hid (UA.out.next hb); clear hb) | fail)
    clear HKEEP HY
    go_wp2
    go_ret
    exact ⟨rfl, HB.out⟩
/-- what the first k places have been given: each at its rank -/
def PlacedU (l : List Us) (n k : Nat) (V : Nat → Value) : Prop := ∀ i, i < k → V (rankU l n i) = .int .i64 i
theorem placed_all {l : List Us} {n : Nat} {V : Nat → Value} (hn : l.length = n) (h : PlacedU l n n V) : (List.range n).map V = (orderU l).map (Value.int .i64) := by
  unfold orderU
  rw [hn, List.map_map]
  refine List.ext_getElem? (fun j => ?_)
  by_cases hj : j < n
  · obtain ⟨i, hi⟩ : ∃ i, (ordN l n)[j]? = some i := ⟨_, List.getElem?_eq_getElem (by rw [ord_length]; exact hj)⟩
    have hr := sorted_rank (ord_perm l n) (ord_sorted l n) hi
    have hin : i < n := List.mem_range.1 ((ord_perm l n).mem_iff.1 (List.mem_of_getElem? hi))
    have := h i hin
    rw [hr] at this
    rw [List.getElem?_map, List.getElem?_range hj, List.getElem?_map, hi]
    simp [this]
  · rw [List.getElem?_eq_none (by simp; omega), List.getElem?_eq_none (by simp [ord_length]; omega)]
theorem rank_step {l : List Us} {i k : Nat} : rankU l (k + 1) i = rankU l k i + (aheadU l k i).toNat := by
  unfold rankU
  rw [List.range_succ, List.countP_append]
  cases h : aheadU l k i <;> simp [h]
set_option maxRecDepth 100000 in
set_option maxHeartbeats 8000000 in
theorem refOrder_any (A : Option Addr) (n c : Nat) (l : List Us) (w : World) (hl : UAsk w A n c l) (hn : n ≤ 1000) : Calls Try.prog 20 #[.slice A n c] w (IPost (orderU l) w) := by
  obtain ⟨i0, hi0, hz0, hz1, hz2⟩ : ∃ i, Try.prog.info? 3 = some i ∧ i.zero = some (.int .i64 0) ∧ i.size = 1 ∧ i.bytes = 8 := info_parts (by kernel_rfl)
  have UA := Lib.hid hl
  have HLN := Lib.hid hl.len
  clear hl
  go_enter Try.func20, Try.ntmps20
  go_wp2_with (at_make; refine wpList_make_full _ rfl _ _ 35 rfl w.heap.size 3 i0 (.int .i64 0) 1 Try.underlying35 hi0 hz0 hz1 .i64 .i64 _ _ n rfl rfl rfl rfl (by rw [hz2]; omega) (by unfold maxLen; omega) (Nat.le_refl _) ?_; intro w2 hown hgrow; refine Hid.out ?_)
  refine Lib.hid ?_
  have HM := Lib.hid (MF.made hown hgrow)
  clear hown hgrow
  go_wp2
  go_loopw [4] (fun iv wr => ∃ (k : Nat) (V : Nat → Value), k ≤ n ∧ iv = .int .i64 k ∧ MF 3 w w.heap.size n V wr ∧ PlacedU l n k V) (fun iv _ => n - (intOf iv).toNat)
  case atStart => exact ⟨0, _, Nat.zero_le _, rfl, HM.out, fun i hi => absurd hi (by omega)⟩
  case round =>
    obtain ⟨k, V, hk, rfl, hmf, hpl⟩ := hrel
    have HMF := Lib.hid hmf
    have HPL := Lib.hid hpl
    clear hmf hpl HM
    by_cases hlt : k < n
    · go_wp2
      go_loopw [5, 6] (fun cv jv wr => ∃ (j : Nat), j ≤ n ∧ jv = .int .i64 j ∧ cv = .int .i64 (rankU l j k) ∧ MF 3 w w.heap.size n V wr) (fun _ jv _ => n - (intOf jv).toNat)
      case atStart => exact ⟨0, Nat.zero_le _, rfl, rfl, HMF.out⟩
      case round =>
        obtain ⟨j, hj, rfl, rfl, hmf2⟩ := hrel
        have HMG := Lib.hid hmf2
        have UB := Lib.hid (UA.out.next hmf2.below)
        clear hmf2 HMF
        have hrj : rankU l j k ≤ j := by unfold rankU; exact Nat.le_trans List.countP_le_length (by simp)
        obtain ⟨rk, hrk⟩ : ∃ rk, rankU l j k = rk := ⟨_, rfl⟩
        have HS : Hid (rankU l (j + 1) k = rk + (aheadU l j k).toNat) := Lib.hid (by rw [rank_step, hrk])
        rw [hrk] at hrj ⊢
        by_cases hjn : j < n
        · clear hrk
          by_cases hjk : j = k
          · have dj : ((j : Int) != k) = false := by rw [hjk]; exact bne_self_eq_false _
            have djn : (j != k) = false := by rw [hjk]; exact bne_self_eq_false _
            have HS2 : Hid (rankU l (j + 1) k = rk) := Lib.hid (by rw [HS.out, hjk, ahead_self]; rfl)
            clear hjk
            go_wp2
            go_roundw
            case rel => exact ⟨j + 1, by omega, by go_num, by rw [HS2.out], HMG.out⟩
            case measure => simp [intOf] <;> omega
          · have dj : ((j : Int) != k) = true := bne_iff_ne.2 (by omega)
            have djn : (j != k) = true := bne_iff_ne.2 hjk
            cases ha : aheadU l j k with
            | true =>
              have HS2 : Hid (rankU l (j + 1) k = rk + 1) := Lib.hid (by rw [HS.out, ha]; rfl)
              have HC := Lib.hid (refAhead_any A n c l j k _ UB.out hjn hlt)
              rw [ha] at HC
              clear ha
              go_wp2_with fail
              refine HC.out.mono ?_
              rintro e w4 ⟨rfl, hb⟩
              have HMH := Lib.hid (HMG.out.next hb)
              clear hb HC
              go_wp2
              go_roundw
              case rel => exact ⟨j + 1, by omega, by go_num, by rw [HS2.out]; go_num, HMH.out⟩
              case measure => simp [intOf] <;> omega
            | false =>
              have HS2 : Hid (rankU l (j + 1) k = rk) := Lib.hid (by rw [HS.out, ha]; rfl)
              have HC := Lib.hid (refAhead_any A n c l j k _ UB.out hjn hlt)
              rw [ha] at HC
              clear ha
              go_wp2_with fail
              refine HC.out.mono ?_
              rintro e w4 ⟨rfl, hb⟩
              have HMH := Lib.hid (HMG.out.next hb)
              clear hb HC
              go_wp2
              go_roundw
              case rel => exact ⟨j + 1, by omega, by go_num, by rw [HS2.out], HMH.out⟩
              case measure => simp [intOf] <;> omega
        · have hjn' : j = n := by omega
          have hrk' : rankU l n k = rk := by rw [← hjn']; exact hrk
          have hrl : rk < n := by rw [← hrk']; exact rank_lt hlt
          have hce := HMG.out.cell hrl
          have hfr := HMG.out.frozen (k := rk)
          have HNP : Hid (PlacedU l n (k + 1) (fun j => if j = rk then .int .i64 k else V j)) := Lib.hid (fun i hi => by
            by_cases hik : i = k
            · subst hik
              exact if_pos hrk'
            · exact (if_neg (fun e => hik (rank_inj (by omega) hlt (e.trans hrk'.symm)))).trans (HPL.out i (by omega)))
          have HMS := Lib.hid (HMG.out.set (.int .i64 k) hrl)
          clear hrk hrk' hjn'
          go_wp2
          go_roundw
          case rel => exact ⟨k + 1, _, by omega, by go_num, HMS.out, HNP.out⟩
          case measure => simp [intOf] <;> omega
    · have hkn : k = n := by omega
      have HOW : Hid (IPost (orderU l) w (.returned (.slice (some ⟨w.heap.size, 0, none⟩) n n)) wr) := Lib.hid (by
        have h1 := HMF.out.own
        rw [placed_all HLN.out (by have h := HPL.out; rw [hkn] at h; exact h)] at h1
        exact ipost_own (by rw [orderU_length, HLN.out]; exact h1) HMF.out.below)
      clear hkn
      go_wp2
      go_ret
      exact HOW.out
theorem find_step {l : List Us} {who : Int} {k : Nat} (h : ∀ i, i < k → (l.getD i us0).who ≠ who) (hk : k < l.length) (hw : (l.getD k us0).who = who) : l.find? (fun v => decide (v.who = who)) = some (l.getD k us0) := by
  have hg : l.getD k us0 = l[k] := by rw [List.getD, List.getElem?_eq_getElem hk]; rfl
  rw [hg] at hw ⊢
  rw [List.find?_eq_some_iff_getElem]
  refine ⟨decide_eq_true hw, k, hk, rfl, fun j hj => ?_⟩
  have := h j hj
  rw [List.getD, List.getElem?_eq_getElem (by omega)] at this
  simpa using this
theorem find_none {l : List Us} {who : Int} (h : ∀ i, i < l.length → (l.getD i us0).who ≠ who) : l.find? (fun v => decide (v.who = who)) = none := by
  rw [List.find?_eq_none]
  intro x hx
  obtain ⟨j, hj, rfl⟩ := List.getElem_of_mem hx
  have := h j hj
  rw [List.getD, List.getElem?_eq_getElem hj] at this
  simpa using this
theorem others_step {l : List Us} {who : Int} {s j : Nat} (hj : j < l.length) : othersU (l.take (j + 1)) who s = othersU (l.take j) who s + (decide ((l.getD j us0).who ≠ who) && decide (s < shareU (l.getD j us0))).toNat := by
  have hg : l.getD j us0 = l[j] := by rw [List.getD, List.getElem?_eq_getElem hj]; rfl
  unfold othersU
  rw [List.take_succ_eq_append_getElem hj, List.countP_append, hg, List.countP_singleton]
  cases (decide (l[j].who ≠ who) && decide (s < shareU l[j])) <;> rfl
set_option maxRecDepth 100000 in
set_option maxHeartbeats 8000000 in
theorem refBonus_any (A : Option Addr) (n c : Nat) (l : List Us) (who : Int) (w : World) (hl : UAsk w A n c l) (hn : n ≤ 1000) : Calls Try.prog 22 #[.slice A n c, .int .i64 who] w fun e w' => e = .returned (.int .i64 (bonusU l who)) ∧ Below w.heap.size w w' := by
  have UA := Lib.hid hl
  have HLN := Lib.hid hl.len
  obtain ⟨z, hz⟩ : ∃ z, bonusU l who = z := ⟨_, rfl⟩
  have HZ := Lib.hid hz
  rw [hz]
  clear hl hz
  go_enter Try.func22, Try.ntmps22
  go_wp2
  go_loopw [5] (fun iv wr => ∃ (k : Nat), k ≤ n ∧ iv = .int .i64 k ∧ (∀ i, i < k → (l.getD i us0).who ≠ who) ∧ Below w.heap.size w wr) (fun iv _ => n - (intOf iv).toNat)
  case atStart => exact ⟨0, Nat.zero_le _, rfl, fun i hi => absurd hi (by omega), Below.refl _ _⟩
  case round =>
    obtain ⟨k, hk, rfl, hno, hbw⟩ := hrel
    have HNO := Lib.hid hno
    have UAw := Lib.hid (UA.out.next hbw)
    clear UA
    have UA := UAw
    clear UAw
    have HBW := Lib.hid hbw
    clear hno hbw
    by_cases hlt : k < n
    · obtain ⟨b, off, hA, hbl, ⟨e0, e1, e2⟩, hu⟩ := UA.out.one hlt
      subst hA
      by_cases hw : (l.getD k us0).who = who
      · have HFI : Hid (l.find? (fun v => decide (v.who = who)) = some (l.getD k us0)) := Lib.hid (find_step HNO.out (by rw [HLN.out]; exact hlt) hw)
        have dw : ((l.getD k us0).who != who) = false := by rw [hw]; exact bne_self_eq_false _
        obtain ⟨u, eu⟩ : ∃ u, l.getD k us0 = u := ⟨_, rfl⟩
        rw [eu] at HFI hu dw e0 e1 e2
        have HU := Lib.hid hu
        have HEU := Lib.hid eu
        have HO : Hid ((othersU l who (shareU u) : Int) = z) := Lib.hid (by rw [← HZ.out]; unfold bonusU; rw [HFI.out])
        clear hw hu eu
        go_wp2
        clear e0 e1 e2
        go_loopw [6, 7] (fun cv jv wr2 => ∃ (j m : Nat), j ≤ n ∧ m ≤ j ∧ jv = .int .i64 j ∧ cv = .int .i64 m ∧ othersU (l.take j) who (shareU u) = m ∧ UAsk wr2 (some ⟨b, off, none⟩) n c l ∧ Below w.heap.size w wr2) (fun _ jv _ => n - (intOf jv).toNat)
        case atStart => exact ⟨0, 0, Nat.zero_le _, Nat.le_refl _, rfl, rfl, rfl, UA.out, HBW.out⟩
        case round =>
          obtain ⟨j, m, hj, hmj, rfl, rfl, hoth, huc, hb⟩ := hrel
          have UC := Lib.hid huc
          have HBZ := Lib.hid hb
          have HOT := Lib.hid hoth
          clear hb hoth huc
          by_cases hjn : j < n
          · have HST := Lib.hid (others_step (l := l) (who := who) (s := shareU u) (j := j) (by rw [HLN.out]; exact hjn))
            obtain ⟨b2, off2, he2, hbl2, ⟨e0, e1, e2⟩, hv⟩ := UC.out.one hjn
            injection he2 with he2
            injection he2 with x1 x2 _
            subst x1 x2
            obtain ⟨b2, off2, he2, hbl2, ⟨f0, f1, f2⟩, _⟩ := UC.out.one hlt
            injection he2 with he2
            injection he2 with x1 x2 _
            subst x1 x2
            rw [HEU.out] at f0 f1 f2
            obtain ⟨v, ev⟩ : ∃ v, l.getD j us0 = v := ⟨_, rfl⟩
            rw [ev] at hv e0 e1 e2 HST
            have HV := Lib.hid hv
            clear hv ev
            have HB := HBZ
            have hbl := hbl2
            by_cases hvw : v.who = who
            · have dv : (v.who != who) = false := by rw [hvw]; exact bne_self_eq_false _
              have HS2 : Hid (othersU (l.take (j + 1)) who (shareU u) = m) := Lib.hid (by rw [HST.out, HOT.out, hvw]; simp)
              clear hvw f0 f1 f2 e1 e2
              go_wp2
              go_quiet (fail)
              go_wp2
              go_roundw
              case rel => exact ⟨j + 1, m, by omega, by omega, by go_num, rfl, HS2.out, UC.out.next (bel_drew _ _), bel_more HBZ.out _⟩
              case measure => simp [intOf] <;> omega
            · have dv : (v.who != who) = true := bne_iff_ne.2 hvw
              have hgt := fgr (shareU_le v) (shareU_le u)
              cases hs : decide (shareU u < shareU v) with
              | true =>
                rw [hs] at hgt
                have HS2 : Hid (othersU (l.take (j + 1)) who (shareU u) = m + 1) := Lib.hid (by rw [HST.out, HOT.out, hs, decide_eq_true hvw]; rfl)
                clear hvw hs
                go_wp2
                have HKEEP : Hid (∀ wx, Below wr.drew.heap.size wr.drew wx → wx.cell? ⟨b, off + j * 3, none⟩ = some (.int .i64 v.who) ∧ wx.cell? ⟨b, off + j * 3 + 1, none⟩ = some (.float .f64 v.had) ∧ wx.cell? ⟨b, off + j * 3 + 2, none⟩ = some (.float .f64 v.weight) ∧ wx.cell? ⟨b, off + k * 3, none⟩ = some (.int .i64 u.who) ∧ wx.cell? ⟨b, off + k * 3 + 1, none⟩ = some (.float .f64 u.had) ∧ wx.cell? ⟨b, off + k * 3 + 2, none⟩ = some (.float .f64 u.weight)) := Lib.hid (fun wx hz' => by
                  have hz := (bel_drew1 wr).trans (hz'.mono (bel_drew1 wr).size)
                  exact ⟨keep_cell hbl e0 hz, keep_cell hbl e1 hz, keep_cell hbl e2 hz, keep_cell hbl f0 hz, keep_cell hbl f1 hz, keep_cell hbl f2 hz⟩)
                have hd := bel_drew1 wr
                have HBq := Lib.hid (HB.out.trans (hd.mono HB.out.size))
                clear HB
                have HB := HBq
                clear HBq
                have UCq := Lib.hid (UC.out.next hd)
                clear UC
                have UC := UCq
                clear UCq
                clear hd
                have HY := Lib.hid (Below.refl wr.drew.heap.size wr.drew)
                go_region_held3 (fun w' => w'.cell? ⟨b, off + j * 3, none⟩ = some (.int .i64 v.who) ∧ w'.cell? ⟨b, off + j * 3 + 1, none⟩ = some (.float .f64 v.had) ∧ w'.cell? ⟨b, off + j * 3 + 2, none⟩ = some (.float .f64 v.weight) ∧ w'.cell? ⟨b, off + k * 3, none⟩ = some (.int .i64 u.who) ∧ w'.cell? ⟨b, off + k * 3 + 1, none⟩ = some (.float .f64 u.had) ∧ w'.cell? ⟨b, off + k * 3 + 2, none⟩ = some (.float .f64 u.weight))
                  (first | exact HKEEP.out _ (Below.refl _ _) | exact HKEEP.out _ HY.out | exact HKEEP.out _ (HY.out.alloc HY.out.size _) | go_keep | fail)
                  (first | (go_at_call 17; (with_reducible refine (refShare_any v wr.drew HV.out).mono ?_); rintro e w5 ⟨rfl, hb⟩; have HY := Lib.hid (HY.out.trans (hb.mono HY.out.size)); have HB := Lib.hid (HB.out.trans (hb.mono HB.out.size)); have UC := Lib.hid (UC.out.next hb); clear hb) | (go_at_call 17; (with_reducible refine (refShare_any u w5 HU.out).mono ?_); rintro e w6 ⟨rfl, hb⟩; have HY := Lib.hid (HY.out.trans (hb.mono HY.out.size)); have HB := Lib.hid (HB.out.trans (hb.mono HB.out.size)); have UC := Lib.hid (UC.out.next hb); clear hb) | fail)
                clear HKEEP HY
                go_wp2
                go_roundw
                case rel => exact ⟨j + 1, m + 1, by omega, by omega, by go_num, by go_num, HS2.out, UC.out, HB.out⟩
                case measure => simp [intOf] <;> omega
              | false =>
                rw [hs] at hgt
                have HS2 : Hid (othersU (l.take (j + 1)) who (shareU u) = m) := Lib.hid (by rw [HST.out, HOT.out, hs]; simp)
                clear hvw hs
                go_wp2
                have HKEEP : Hid (∀ wx, Below wr.drew.heap.size wr.drew wx → wx.cell? ⟨b, off + j * 3, none⟩ = some (.int .i64 v.who) ∧ wx.cell? ⟨b, off + j * 3 + 1, none⟩ = some (.float .f64 v.had) ∧ wx.cell? ⟨b, off + j * 3 + 2, none⟩ = some (.float .f64 v.weight) ∧ wx.cell? ⟨b, off + k * 3, none⟩ = some (.int .i64 u.who) ∧ wx.cell? ⟨b, off + k * 3 + 1, none⟩ = some (.float .f64 u.had) ∧ wx.cell? ⟨b, off + k * 3 + 2, none⟩ = some (.float .f64 u.weight)) := Lib.hid (fun wx hz' => by
                  have hz := (bel_drew1 wr).trans (hz'.mono (bel_drew1 wr).size)
                  exact ⟨keep_cell hbl e0 hz, keep_cell hbl e1 hz, keep_cell hbl e2 hz, keep_cell hbl f0 hz, keep_cell hbl f1 hz, keep_cell hbl f2 hz⟩)
                have hd := bel_drew1 wr
                have HBq := Lib.hid (HB.out.trans (hd.mono HB.out.size))
                clear HB
                have HB := HBq
                clear HBq
                have UCq := Lib.hid (UC.out.next hd)
                clear UC
                have UC := UCq
                clear UCq
                clear hd
                have HY := Lib.hid (Below.refl wr.drew.heap.size wr.drew)
                go_region_held3 (fun w' => w'.cell? ⟨b, off + j * 3, none⟩ = some (.int .i64 v.who) ∧ w'.cell? ⟨b, off + j * 3 + 1, none⟩ = some (.float .f64 v.had) ∧ w'.cell? ⟨b, off + j * 3 + 2, none⟩ = some (.float .f64 v.weight) ∧ w'.cell? ⟨b, off + k * 3, none⟩ = some (.int .i64 u.who) ∧ w'.cell? ⟨b, off + k * 3 + 1, none⟩ = some (.float .f64 u.had) ∧ w'.cell? ⟨b, off + k * 3 + 2, none⟩ = some (.float .f64 u.weight))
                  (first | exact HKEEP.out _ (Below.refl _ _) | exact HKEEP.out _ HY.out | exact HKEEP.out _ (HY.out.alloc HY.out.size _) | go_keep | fail)
                  (first | (go_at_call 17; (with_reducible refine (refShare_any v wr.drew HV.out).mono ?_); rintro e w5 ⟨rfl, hb⟩; have HY := Lib.hid (HY.out.trans (hb.mono HY.out.size)); have HB := Lib.hid (HB.out.trans (hb.mono HB.out.size)); have UC := Lib.hid (UC.out.next hb); clear hb) | (go_at_call 17; (with_reducible refine (refShare_any u w5 HU.out).mono ?_); rintro e w6 ⟨rfl, hb⟩; have HY := Lib.hid (HY.out.trans (hb.mono HY.out.size)); have HB := Lib.hid (HB.out.trans (hb.mono HB.out.size)); have UC := Lib.hid (UC.out.next hb); clear hb) | fail)
                clear HKEEP HY
                go_wp2
                go_roundw
                case rel => exact ⟨j + 1, m, by omega, by omega, by go_num, rfl, HS2.out, UC.out, HB.out⟩
                case measure => simp [intOf] <;> omega
          · have hjn' : j = n := by omega
            have HF : Hid ((m : Int) = z) := Lib.hid (by
              rw [← HO.out, ← HOT.out, hjn', List.take_of_length_le (by rw [HLN.out]; omega)])
            clear hjn'
            go_wp2
            go_ret
            exact ⟨congrArg (fun q => Ending.returned (.int .i64 q)) HF.out, HBZ.out⟩
      · have dw : ((l.getD k us0).who != who) = true := bne_iff_ne.2 hw
        have HN2 : Hid (∀ i, i < k + 1 → (l.getD i us0).who ≠ who) := Lib.hid (fun i hi => by
          by_cases hik : i = k
          · rw [hik]; exact hw
          · exact HNO.out i (by omega))
        obtain ⟨u, eu⟩ : ∃ u, l.getD k us0 = u := ⟨_, rfl⟩
        rw [eu] at dw e0 e1 e2
        clear hw hu eu
        go_wp2
        go_roundw
        case rel => exact ⟨k + 1, by omega, by go_num, HN2.out, HBW.out⟩
        case measure => simp [intOf] <;> omega
    · have HF : Hid ((0 : Int) = z) := Lib.hid (by
        rw [← HZ.out]; unfold bonusU
        rw [find_none (fun i hi => HNO.out i (by rw [HLN.out] at hi; omega))])
      go_wp2
      go_ret
      exact ⟨congrArg (fun q => Ending.returned (.int .i64 q)) HF.out, HBW.out⟩

end Go.Proofs.Ytaehhafdodoljaa
