/- Go's slices.Index, Contains, IndexFunc and DeleteFunc of numbers, by walks over their own texts: what they answer; of a question that may make memory of its own. The program's may, there, ready, fails, follows of layer 12. Written by gen/gen_queuep.py. -/
import Derived.LoopTactic
import Derived.Shelf.Abstract
import Derived.Lib.SliceRun
import Derived.Laws.OwnMore
import Derived.Test.YtimgdlddfnglaaaMg17
import Derived.Test.YtimgdlddfnglaaaMg02
import Derived.Test.YtimgdlddfnglaaaMg16
namespace Go.Proofs.Ytimgdlddfnglaaa
open Go.RowKit

set_option maxRecDepth 100000 in
set_option maxHeartbeats 2000000 in
theorem index_any (A : Option Addr) (n c : Nat) (xs : List Int) (x : Int) (w : World) (hr : RI w w.heap.size A n xs) (hn : n ≤ maxLen) :
    Calls Try.prog 62 #[.slice A n c, .int .i64 x] w fun e w' => (∃ r : Int, e = .returned (.int .i64 r) ∧ decide (0 ≤ r) = xs.contains x) ∧ w = w' := by
  have HR := Lib.hid hr
  have HL := Lib.hid hr.1
  unfold maxLen at hn
  clear hr
  go_enter Try.func62, Try.ntmps62
  go_wp2
  go_loopw [8] (fun i wr => ∃ k : Nat, k ≤ n ∧ i = .int .i64 k ∧ (∀ j, j < k → ¬ xs.getD j 0 = x) ∧ wr = w) (fun i _ => n - (intOf i).toNat)
  case atStart => exact ⟨0, Nat.zero_le _, rfl, fun j hj => absurd hj (by omega), rfl⟩
  case round =>
    obtain ⟨k, hk, rfl, hpre, rfl⟩ := hrel
    have HPRE := Lib.hid hpre
    clear hpre
    by_cases hlt : k < n
    · obtain ⟨b, off, rfl, _, hc⟩ := HR.out.one hlt
      obtain ⟨y, hy⟩ : ∃ y, xs.getD k 0 = y := ⟨_, rfl⟩
      rw [hy] at hc
      have HY := Lib.hid hy
      clear hy
      by_cases hxy : x = y
      · have hm : Hid (decide ((0 : Int) ≤ (k : Int)) = xs.contains x) := Lib.hid (by
          rw [decide_eq_true (by omega)]
          refine (List.contains_iff_mem.2 ?_).symm
          have hkl : k < xs.length := by rw [HL.out]; exact hlt
          rw [hxy, ← HY.out, List.getD, List.getElem?_eq_getElem hkl]
          exact List.getElem_mem hkl)
        subst hxy
        go_wp2
        go_ret
        exact ⟨⟨_, rfl, hm.out⟩, rfl⟩
      · have hd : (x == y) = false := by simpa using hxy
        have HN : Hid (∀ j, j < k + 1 → ¬ xs.getD j 0 = x) := Lib.hid (fun j hj => by
          by_cases hjk : j = k
          · subst hjk; rw [HY.out]; exact fun e => hxy e.symm
          · exact HPRE.out j (by omega))
        clear hxy
        go_wp2
        go_roundw
        case rel => exact ⟨k + 1, by omega, by go_num, HN.out, by trivial⟩
        case measure => simp [intOf]; omega
    · have hkn : k = n := by omega
      subst hkn
      have hm : Hid (decide ((0 : Int) ≤ -1) = xs.contains x) := Lib.hid (by
        rw [decide_eq_false (by omega)]
        refine (Bool.eq_false_iff.2 fun h => ?_).symm
        obtain ⟨j, hj, e⟩ := List.getElem_of_mem (List.contains_iff_mem.1 h)
        exact HPRE.out j (by rw [← HL.out]; exact hj) (by rw [List.getD, List.getElem?_eq_getElem hj]; exact e))
      go_wp2
      go_ret
      exact ⟨⟨_, rfl, hm.out⟩, rfl⟩
set_option maxHeartbeats 2000000 in
theorem contains_any (A : Option Addr) (n c : Nat) (xs : List Int) (x : Int) (w : World) (hr : RI w w.heap.size A n xs) (hn : n ≤ maxLen) :
    Calls Try.prog 48 #[.slice A n c, .int .i64 x] w fun e w' => e = .returned (.bool (xs.contains x)) ∧ w = w' := by
  have HI := Lib.hid (index_any A n c xs x w hr hn)
  clear hr hn
  go_enter Try.func48, Try.ntmps48
  go_wp2_with fail
  refine HI.out.mono ?_
  rintro e w1 ⟨⟨r, rfl, hm⟩, rfl⟩
  have HM := Lib.hid hm
  clear hm
  go_wp2
  go_ret
  exact ⟨by rw [← HM.out]; rfl, rfl⟩


end Go.Proofs.Ytimgdlddfnglaaa

namespace Go.Proofs.Ytimgdlddfnglaaa
open Go.RowKit

theorem JAsk.mask {w : World} {A : Option Addr} {m c : Nat} {j : Jb} (h : JAsk w A m c j) : MAsk w A m c j.needs := ⟨h.reads, h.nil, h.cap, h.few, h.int.2.2.2.2.2⟩

set_option maxRecDepth 100000 in
set_option maxHeartbeats 8000000 in
theorem mayQ_any (A : Option Addr) (m c : Nat) (l : List Int) (B : Nat) (w : World) (hl : RI w B A m l) (hm : m ≤ maxLen) :
    Calls Try.prog 39 #[.slice A m c] w fun e w' => e = .returned (.bool (mayB l)) ∧ w = w' := by
  have HL := Lib.hid hl
  have HM := Lib.hid hl.1
  unfold maxLen at hm
  clear hl
  by_cases h16 : 16 < m
  · have d1 : decide ((16 : Int) < (m : Int)) = true := by simp; omega
    have e1 : Hid (mayB l = false) := Lib.hid (decide_eq_false fun h => by have := h.1; have := HM.out; omega)
    go_enter Try.func39, Try.ntmps39
    go_wp2
    go_ret
    exact ⟨ret_bl e1.out, rfl⟩
  · have d1 : decide ((16 : Int) < (m : Int)) = false := by simp; omega
    go_enter Try.func39, Try.ntmps39
    go_wp2
    go_loop [3, 11] (fun lv iv => ∃ (k : Nat) (y : Int), k ≤ m ∧ iv = .int .i64 k ∧ lv = .int .i64 y ∧ ((k = 0 ∧ y = 0) ∨ (0 < k ∧ y = l.getD (k - 1) 0)) ∧ ∀ i, i < k → 1 ≤ l.getD i 0 ∧ (0 < i → l.getD (i - 1) 0 < l.getD i 0)) (fun _ iv => m - (intOf iv).toNat)
    case atStart => exact ⟨0, 0, Nat.zero_le _, rfl, rfl, .inl ⟨rfl, rfl⟩, fun i hi => absurd hi (by omega)⟩
    case round =>
      obtain ⟨k, y, hk, rfl, rfl, hy, hna⟩ := hrel
      have HY := Lib.hid hy
      have HNA := Lib.hid hna
      clear hy hna
      by_cases hlt : k < m
      · obtain ⟨b, off, rfl, _, hc⟩ := HL.out.one hlt
        obtain ⟨x, hx⟩ : ∃ x, l.getD k 0 = x := ⟨_, rfl⟩
        rw [hx] at hc
        have HX := Lib.hid hx
        clear hx
        by_cases x1 : x ≤ y
        · have g1 : decide (x ≤ y) = true := decide_eq_true x1
          have e1 : Hid (mayB l = false) := Lib.hid (decide_eq_false fun h => by
            have h1 := h.2 k (by rw [HM.out]; exact hlt)
            rw [HX.out] at h1
            rcases HY.out with ⟨h2, h3⟩ | ⟨h2, h3⟩
            · omega
            · have := h1.2 h2; omega)
          clear x1
          go_wp2
          go_ret
          exact ⟨ret_bl e1.out, rfl⟩
        · have g1 : decide (x ≤ y) = false := decide_eq_false x1
          have e1 : Hid (∀ i, i < k + 1 → 1 ≤ l.getD i 0 ∧ (0 < i → l.getD (i - 1) 0 < l.getD i 0)) := Lib.hid (fun i hi => by
            by_cases e : i = k
            · subst e
              rw [HX.out]
              rcases HY.out with ⟨h2, h3⟩ | ⟨h2, h3⟩
              · exact ⟨by omega, fun h => by omega⟩
              · have h4 := (HNA.out (i - 1) (by omega)).1
                exact ⟨by omega, fun _ => by omega⟩
            · exact HNA.out i (by omega))
          clear x1
          go_wp2
          go_round
          case rel => exact ⟨k + 1, x, by omega, by go_num, rfl, .inr ⟨by omega, HX.out.symm⟩, e1.out⟩
          case measure => simp [intOf]; omega
      · have hkm : k = m := by omega
        have e1 : Hid (mayB l = true) := Lib.hid (decide_eq_true ⟨by rw [HM.out]; omega, fun i hi => HNA.out i (by rw [HM.out] at hi; omega)⟩)
        clear HY HNA
        go_wp2
        go_ret
        exact ⟨ret_bl e1.out, rfl⟩
theorem mayQ_b {A : Option Addr} {m c : Nat} {l : List Int} {w : World} {v : Bool} (hl : MAsk w A m c l) (h : mayB l = v) : Calls Try.prog 39 #[.slice A m c] w fun e w' => e = .returned (.bool v) ∧ Below w.heap.size w w' := by
  subst h
  exact (mayQ_any A m c l _ w hl.reads hl.few).mono fun e w' ⟨h1, h2⟩ => ⟨h1, by rw [← h2]; exact Below.refl _ _⟩

set_option maxRecDepth 100000 in
set_option maxHeartbeats 8000000 in
theorem thereQ_b {A A2 : Option Addr} {n c m c2 : Nat} {l : Qu} {ns : List Int} {w : World} {v : Bool} (hr : RQ w w.heap.size A n l) (hn : n ≤ 1000) (hi : RiseL l) (hm : MAsk w A2 m c2 ns) (hv : decide (AllHas l ns) = v) :
    Calls Try.prog 34 #[.slice A n c, .slice A2 m c2] w fun e w' => e = .returned (.bool v) ∧ Below w.heap.size w w' := by
  have HR := Lib.hid hr
  have HI := Lib.hid hi
  have HM := Lib.hid hm
  have HML := Lib.hid hm.reads.1
  have HV := Lib.hid hv
  have hmm := hm.few
  unfold maxLen at hmm
  clear hr hi hm hv
  go_enter Try.func34, Try.ntmps34
  go_wp2
  go_loopw [11] (fun iv wr => ∃ k : Nat, k ≤ m ∧ iv = .int .i64 k ∧ (∀ q, q < k → HasQ l (ns.getD q 0)) ∧ Below w.heap.size w wr) (fun iv _ => m - (intOf iv).toNat)
  case atStart => exact ⟨0, Nat.zero_le _, rfl, fun q hq => absurd hq (by omega), Below.refl _ _⟩
  case round =>
    obtain ⟨k, hk, rfl, hna, hbel⟩ := hrel
    have HNA := Lib.hid hna
    have HB := Lib.hid hbel
    have HRw := Lib.hid (HR.out.next hbel)
    have MQ := Lib.hid (HM.out.next hbel)
    clear hna hbel
    by_cases hlt : k < m
    · obtain ⟨b, off, rfl, _, hc⟩ := MQ.out.reads.one hlt
      obtain ⟨x, hx⟩ : ∃ x, ns.getD k 0 = x := ⟨_, rfl⟩
      rw [hx] at hc
      have HX := Lib.hid hx
      clear hx
      by_cases hh : HasQ l x
      · have HC := Lib.hid (findQ_yes (c := c) HRw.out hn HI.out hh)
        obtain ⟨K, hK⟩ : ∃ K, atN l x = K := ⟨_, rfl⟩
        rw [hK] at HC
        have HN : Hid (∀ q, q < k + 1 → HasQ l (ns.getD q 0)) := Lib.hid (fun q hq => by
          by_cases e : q = k
          · subst e; rw [HX.out]; exact hh
          · exact HNA.out q (by omega))
        clear hh hK
        go_wp2_with fail
        refine HC.out.mono ?_
        rintro e w4 ⟨rfl, hb⟩
        have HB4 := Lib.hid (HB.out.trans (hb.mono HB.out.size))
        clear hb hc
        go_wp2
        go_roundw
        case rel => exact ⟨k + 1, by omega, by go_num, HN.out, HB4.out⟩
        case measure => simp [intOf]; omega
      · have HC := Lib.hid (findQ_no (c := c) HRw.out hn HI.out hh)
        have HF : Hid (v = false) := Lib.hid (by rw [← HV.out]; exact decide_eq_false fun h => hh (by rw [← HX.out]; exact h k (by rw [HML.out]; exact hlt)))
        clear hh
        go_wp2_with fail
        refine HC.out.mono ?_
        rintro e w4 ⟨⟨K, rfl⟩, hb⟩
        have HB4 := Lib.hid (HB.out.trans (hb.mono HB.out.size))
        clear hb hc
        go_wp2
        go_ret
        exact ⟨by rw [HF.out]; rfl, HB4.out⟩
    · have HF : Hid (v = true) := Lib.hid (by rw [← HV.out]; exact decide_eq_true fun q hq => HNA.out q (by rw [HML.out] at hq; omega))
      clear HNA
      go_wp2
      go_ret
      exact ⟨by rw [HF.out]; rfl, HB.out⟩

set_option maxRecDepth 100000 in
set_option maxHeartbeats 8000000 in
theorem readyQ_b {A A2 : Option Addr} {n c m2 c2 : Nat} {l : Qu} {j : Jb} {w : World} {v : Bool} (hr : RQ w w.heap.size A n l) (hn : n ≤ 1000) (hi : RiseL l) (hj : JAsk w A2 m2 c2 j) (ha : AllHas l j.needs) (hv : readyB l j = v) :
    Calls Try.prog 25 #[.slice A n c, .agg #[.int .i64 j.id, .int .i64 j.spec.nodes, .int .i64 j.spec.cores, .int .i64 j.spec.gpus, .string j.spec.tag, .bool j.spec.whole, .int .i64 j.spec.long, .int .i64 j.spec.prio, .slice A2 m2 c2, .int .i64 j.state, .int .i64 j.came, .int .i64 j.frm, .int .i64 j.to]] w fun e w' => e = .returned (.bool v) ∧ Below w.heap.size w w' := by
  have HR := Lib.hid hr
  have HI := Lib.hid hi
  have HV := Lib.hid hv
  have HA := Lib.hid ha
  have HM := Lib.hid hj.mask
  have HML := Lib.hid hj.reads.1
  have hmm := hj.few
  unfold maxLen at hmm
  clear hr hi hv ha hj
  by_cases h0 : j.state = 0
  · have d0 : (j.state != 0) = false := by rw [h0]; rfl
    have HS := Lib.hid h0
    clear h0
    go_enter Try.func25, Try.ntmps25
    go_wp2
    go_loopw [13] (fun iv wr => ∃ k : Nat, k ≤ m2 ∧ iv = .int .i64 k ∧ (∀ q, q < k → (jOf l (j.needs.getD q 0)).state = 3) ∧ Below w.heap.size w wr) (fun iv _ => m2 - (intOf iv).toNat)
    case atStart => exact ⟨0, Nat.zero_le _, rfl, fun q hq => absurd hq (by omega), (Below.refl _ _).alloc (Nat.le_refl _) _⟩
    case round =>
      obtain ⟨k, hk, rfl, hna, hbel⟩ := hrel
      have HNA := Lib.hid hna
      have HB := Lib.hid hbel
      have HRw := Lib.hid (HR.out.next hbel)
      have MQ := Lib.hid (HM.out.next hbel)
      clear hna hbel
      by_cases hlt : k < m2
      · obtain ⟨b, off, rfl, _, hc⟩ := MQ.out.reads.one hlt
        have hkl : Hid (k < j.needs.length) := Lib.hid (by rw [HML.out]; exact hlt)
        obtain ⟨x, hx⟩ : ∃ x, j.needs.getD k 0 = x := ⟨_, rfl⟩
        rw [hx] at hc
        have HX := Lib.hid hx
        have HH : Hid (HasQ l x) := Lib.hid (by rw [← hx]; exact HA.out k hkl.out)
        clear hx
        obtain ⟨s, hs⟩ : ∃ s, (jOf l x).state = s := ⟨_, rfl⟩
        have HC := Lib.hid (stateQ_any (c := c) HRw.out hn HI.out HH.out hs)
        have HS2 := Lib.hid hs
        clear hs
        by_cases h3 : s = 3
        · subst h3
          have HN : Hid (∀ q, q < k + 1 → (jOf l (j.needs.getD q 0)).state = 3) := Lib.hid (fun q hq => by
            by_cases e : q = k
            · subst e; rw [HX.out]; exact HS2.out
            · exact HNA.out q (by omega))
          go_wp2_with fail
          refine HC.out.mono ?_
          rintro e w4 ⟨rfl, hb⟩
          have HB4 := Lib.hid (HB.out.trans (hb.mono HB.out.size))
          clear hb hc
          go_wp2
          go_roundw
          case rel => exact ⟨k + 1, by omega, by go_num, HN.out, HB4.out⟩
          case measure => simp [intOf]; omega
        · have d3 : (s != 3) = true := bne_iff_ne.2 h3
          have HF : Hid (v = false) := Lib.hid (by
            rw [← HV.out]
            refine decide_eq_false fun h => h3 ?_
            have := h.2 k hkl.out
            rw [HX.out, HS2.out] at this; exact this)
          clear h3
          go_wp2_with fail
          refine HC.out.mono ?_
          rintro e w4 ⟨rfl, hb⟩
          have HB4 := Lib.hid (HB.out.trans (hb.mono HB.out.size))
          clear hb hc
          go_wp2
          go_ret
          exact ⟨by rw [HF.out]; rfl, HB4.out⟩
      · have HF : Hid (v = true) := Lib.hid (by rw [← HV.out]; exact decide_eq_true ⟨HS.out, fun q hq => HNA.out q (by rw [HML.out] at hq; omega)⟩)
        clear HNA
        go_wp2
        go_ret
        exact ⟨by rw [HF.out]; rfl, HB.out⟩
  · have d0 : (j.state != 0) = true := bne_iff_ne.2 h0
    have HF : Hid (v = false) := Lib.hid (by rw [← HV.out]; exact decide_eq_false fun h => h0 h.1)
    clear h0
    go_enter Try.func25, Try.ntmps25
    go_wp2
    go_ret
    exact ⟨by rw [HF.out]; rfl, (Below.refl _ _).alloc (Nat.le_refl _) _⟩

set_option maxRecDepth 100000 in
set_option maxHeartbeats 8000000 in
/-- can one of these not be done any more; the jobs that they name are in states that there are -/
theorem failsQ_b {A A1 A2 : Option Addr} {n c n1 c1 m c2 : Nat} {l : Qu} {lost ns : List Int} {w : World} {v : Bool} (hr : RQ w w.heap.size A n l) (hn : n ≤ 1000) (hi : RiseL l) (h1 : RI w w.heap.size A1 n1 lost) (hn1 : n1 ≤ 1000) (hm : MAsk w A2 m c2 ns) (ha : AllHas l ns)
    (hst : ∀ k, k < ns.length → (jOf l (ns.getD k 0)).state ≤ 6) (hv : failsB l lost ns = v) :
    Calls Try.prog 30 #[.slice A n c, .slice A1 n1 c1, .slice A2 m c2] w fun e w' => e = .returned (.bool v) ∧ Below w.heap.size w w' := by
  have HR := Lib.hid hr
  have HI := Lib.hid hi
  have HV := Lib.hid hv
  have HA := Lib.hid ha
  have HM := Lib.hid hm
  have HML := Lib.hid hm.reads.1
  have HLO := Lib.hid h1
  have HST := Lib.hid hst
  have hmm := hm.few
  unfold maxLen at hmm
  clear hr hi hv ha hm h1 hst
  go_enter Try.func30, Try.ntmps30
  go_wp2
  go_loopw [12] (fun iv wr => ∃ k : Nat, k ≤ m ∧ iv = .int .i64 k ∧ (∀ q, q < k → ¬ (3 < (jOf l (ns.getD q 0)).state ∨ ns.getD q 0 ∈ lost)) ∧ Below w.heap.size w wr) (fun iv _ => m - (intOf iv).toNat)
  case atStart => exact ⟨0, Nat.zero_le _, rfl, fun q hq => absurd hq (by omega), Below.refl _ _⟩
  case round =>
    obtain ⟨k, hk, rfl, hna, hbel⟩ := hrel
    have HNA := Lib.hid hna
    have HB := Lib.hid hbel
    have HRw := Lib.hid (HR.out.next hbel)
    have MQ := Lib.hid (HM.out.next hbel)
    have LQ := Lib.hid (HLO.out.next hbel)
    clear hna hbel
    by_cases hlt : k < m
    · obtain ⟨b, off, rfl, _, hc⟩ := MQ.out.reads.one hlt
      have hkl : Hid (k < ns.length) := Lib.hid (by rw [HML.out]; exact hlt)
      obtain ⟨x, hx⟩ : ∃ x, ns.getD k 0 = x := ⟨_, rfl⟩
      rw [hx] at hc
      have HX := Lib.hid hx
      have HH : Hid (HasQ l x) := Lib.hid (by rw [← hx]; exact HA.out k hkl.out)
      have HS6 : Hid ((jOf l x).state ≤ 6) := Lib.hid (by rw [← hx]; exact HST.out k hkl.out)
      clear hx
      obtain ⟨s, hs⟩ : ∃ s, (jOf l x).state = s := ⟨_, rfl⟩
      have HC := Lib.hid (stateQ_any (c := c) HRw.out hn HI.out HH.out hs)
      have HS2 := Lib.hid hs
      rw [hs] at HS6
      clear hs
      by_cases h3 : 3 < s
      · have HO := Lib.hid (fun W => over_b (s := s) (w := W) (v := true) (decide_eq_true ⟨by omega, HS6.out⟩))
        have d3 : (s != 3) = true := bne_iff_ne.2 (by omega)
        have HF : Hid (v = true) := Lib.hid (by rw [← HV.out]; exact decide_eq_true ⟨k, hkl.out, .inl (by rw [HX.out, HS2.out]; exact h3)⟩)
        clear h3
        go_wp2_with fail
        refine HC.out.mono ?_
        rintro e w4 ⟨rfl, hb⟩
        have HB4 := Lib.hid (HB.out.trans (hb.mono HB.out.size))
        clear hb hc
        go_wp2_with fail
        refine (HO.out _).mono ?_
        rintro e w5 ⟨rfl, rfl⟩
        go_wp2
        go_ret
        exact ⟨by rw [HF.out]; rfl, HB4.out⟩
      · obtain ⟨ov, hov⟩ : ∃ v, overJ s = v := ⟨_, rfl⟩
        have HO := Lib.hid (fun W => over_b (s := s) (w := W) hov)
        have d3 : ov = true → (s != 3) = false := fun h => by
          rw [h] at hov
          have h4 := of_decide_eq_true hov
          rw [show s = 3 by omega]; rfl
        have HN3 := Lib.hid h3
        clear h3 hov
        obtain ⟨iv, hiv⟩ : ∃ v, lost.contains x = v := ⟨_, rfl⟩
        have HCO := Lib.hid (fun (W : World) (hb : Below wr.heap.size wr W) => contains_any A1 n1 c1 lost x W (LQ.out.next hb) (by unfold maxLen; omega))
        rw [hiv] at HCO
        go_wp2_with fail
        refine HC.out.mono ?_
        rintro e w4 ⟨rfl, hb⟩
        have HB4 := Lib.hid (HB.out.trans (hb.mono HB.out.size))
        have HCN := Lib.hid (HCO.out w4 hb)
        clear hb hc HCO
        go_wp2_with fail
        refine (HO.out _).mono ?_
        rintro e w5 ⟨rfl, rfl⟩
        cases iv with
        | true =>
          have HF : Hid (v = true) := Lib.hid (by rw [← HV.out]; exact decide_eq_true ⟨k, hkl.out, .inr (by rw [HX.out]; exact List.contains_iff_mem.1 hiv)⟩)
          clear hiv
          cases ov with
          | true =>
            have d3' := d3 rfl
            clear d3
            go_wp2_with fail
            refine HCN.out.mono ?_
            rintro e w6 ⟨rfl, rfl⟩
            go_wp2
            go_ret
            exact ⟨by rw [HF.out]; rfl, HB4.out⟩
          | false =>
            clear d3
            go_wp2_with fail
            refine HCN.out.mono ?_
            rintro e w6 ⟨rfl, rfl⟩
            go_wp2
            go_ret
            exact ⟨by rw [HF.out]; rfl, HB4.out⟩
        | false =>
          have HN : Hid (∀ q, q < k + 1 → ¬ (3 < (jOf l (ns.getD q 0)).state ∨ ns.getD q 0 ∈ lost)) := Lib.hid (fun q hq => by
            by_cases e : q = k
            · subst e
              rw [HX.out, HS2.out]
              rintro (h | h)
              · exact absurd h (by have := HN3.out; omega)
              · rw [List.contains_iff_mem.2 h] at hiv; cases hiv
            · exact HNA.out q (by omega))
          clear hiv
          cases ov with
          | true =>
            have d3' := d3 rfl
            clear d3
            go_wp2_with fail
            refine HCN.out.mono ?_
            rintro e w6 ⟨rfl, rfl⟩
            go_wp2
            go_roundw
            case rel => exact ⟨k + 1, by omega, by go_num, HN.out, HB4.out⟩
            case measure => simp [intOf]; omega
          | false =>
            clear d3
            go_wp2_with fail
            refine HCN.out.mono ?_
            rintro e w6 ⟨rfl, rfl⟩
            go_wp2
            go_roundw
            case rel => exact ⟨k + 1, by omega, by go_num, HN.out, HB4.out⟩
            case measure => simp [intOf]; omega
    · have HF : Hid (v = false) := Lib.hid (by
        rw [← HV.out]
        refine decide_eq_false ?_
        rintro ⟨q, hq, h⟩
        exact HNA.out q (by rw [HML.out] at hq; omega) h)
      clear HNA
      go_wp2
      go_ret
      exact ⟨by rw [HF.out]; rfl, HB.out⟩

/-- may the one stand behind the other -/
def followsJ (a b : Jb) : Bool := decide (a.id < b.id ∧ a.came ≤ b.came)
set_option maxRecDepth 100000 in
set_option maxHeartbeats 8000000 in
theorem followsQ_b {a b : Jb} {A1 A2 : Option Addr} {m1 c1 m2 c2 : Nat} {w : World} {v : Bool} (hv : followsJ a b = v) :
    Calls Try.prog 33 #[.agg #[.int .i64 a.id, .int .i64 a.spec.nodes, .int .i64 a.spec.cores, .int .i64 a.spec.gpus, .string a.spec.tag, .bool a.spec.whole, .int .i64 a.spec.long, .int .i64 a.spec.prio, .slice A1 m1 c1, .int .i64 a.state, .int .i64 a.came, .int .i64 a.frm, .int .i64 a.to], .agg #[.int .i64 b.id, .int .i64 b.spec.nodes, .int .i64 b.spec.cores, .int .i64 b.spec.gpus, .string b.spec.tag, .bool b.spec.whole, .int .i64 b.spec.long, .int .i64 b.spec.prio, .slice A2 m2 c2, .int .i64 b.state, .int .i64 b.came, .int .i64 b.frm, .int .i64 b.to]] w fun e w' => e = .returned (.bool v) ∧ Below w.heap.size w w' := by
  by_cases h1 : a.id < b.id
  · have d1 : decide (a.id < b.id) = true := decide_eq_true h1
    have HV : Hid (decide (a.came ≤ b.came) = v) := Lib.hid (by rw [← hv]; unfold followsJ; simp [h1])
    clear hv h1
    obtain ⟨u, hu⟩ : ∃ u, decide (a.came ≤ b.came) = u := ⟨_, rfl⟩
    have HU := Lib.hid hu
    go_enter Try.func33, Try.ntmps33
    go_wp2
    go_ret
    exact ⟨by rw [← HV.out, HU.out]; rfl, ((Below.refl _ _).alloc (Nat.le_refl _) _).alloc (by simp) _⟩
  · have d1 : decide (a.id < b.id) = false := decide_eq_false h1
    have HV : Hid (v = false) := Lib.hid (by rw [← hv]; exact decide_eq_false fun h => h1 h.1)
    clear hv h1
    go_enter Try.func33, Try.ntmps33
    go_wp2
    go_ret
    exact ⟨by rw [HV.out]; rfl, ((Below.refl _ _).alloc (Nat.le_refl _) _).alloc (by simp) _⟩

end Go.Proofs.Ytimgdlddfnglaaa
