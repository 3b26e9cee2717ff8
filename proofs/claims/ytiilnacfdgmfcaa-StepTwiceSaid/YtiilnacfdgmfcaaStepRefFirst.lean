/- The reference's First (bailiwickref03): of any list of steps, time, length and number: the first of the tried times, or none. -/
import Derived.Test.YtiilnacfdgmfcaaStepFirstMath
namespace Go.Proofs.Ytiilnacfdgmfcaa
open Go.RowKit

set_option maxRecDepth 100000 in
set_option maxHeartbeats 4000000 in
theorem refFirst_good (A : Option Addr) (n c : Nat) (p : List (Int × Int)) (a l m : Int) (w : World) (hr : RS w w.heap.size A n p) (hn : n ≤ maxLen) (ha2 : a ≤ 9223372036854775807) (hl1 : -9223372036854775808 ≤ l) (hl2 : l ≤ 9223372036854775807)
    (hp : rightP p = true) (h0 : 0 ≤ a) (h1 : a < 4611686018427387904) (h2 : 1 ≤ l) (h3 : 0 ≤ m) (h4 : m ≤ 1048576) :
    Calls Try.prog 23 #[.slice A n c, .int .i64 a, .int .i64 l, .int .i64 m] w fun e w' => e = .returned (.tuple #[.int .i64 (firstR p a l m).1, .bool (firstR p a l m).2]) ∧ ∃ q, w' = w.drewN q := by
  have HR := Lib.hid hr
  have HN := Lib.hid hn
  have HP := Lib.hid hp
  obtain ⟨r, hr0⟩ : ∃ r, firstR p a l m = r := ⟨_, rfl⟩
  have HF : Hid (r = match (cands p a).find? (tryF p a l m) with | some t => (t, true) | none => (0, false)) := Lib.hid (by
    have hg : goodF p a l m = true := by unfold goodF NEVER MAXF; rw [hp, decide_eq_true ⟨h0, h1, h2, h3, h4⟩]; rfl
    rw [← hr0]; unfold firstR; rw [if_neg (by rw [hg]; simp)]; cases (cands p a).find? (tryF p a l m) <;> rfl)
  rw [hr0]
  have HCAN := Lib.hid ((rightP_iff p).1 hp)
  have HNS : n ≤ 1024 := by have := HR.out.1; have := HCAN.out.2.2; omega
  clear hr hn hp hr0
  go_enter Try.func23, Try.ntmps23
  go_wp2_with fail
  refine (refRightS_any _ _ _ p _ _ HR.out HN.out).mono ?_
  rintro e w1 ⟨rfl, q, rfl⟩
  rw [HP.out]
  go_wp2
  go_loopg [10] (n + 1) (fun g i wr => ∃ k : Nat, k ≤ n + 1 ∧ g = n + 1 - k ∧ i = .int .i64 ((k : Int) - 1) ∧ wr = w.drewN q ∧ ∀ j, j < k → tryF p a l m ((cands p a).getD j 0) = false)
  case atStart => exact ⟨0, by omega, rfl, rfl, rfl, fun j hj => absurd hj (by omega)⟩
  case round =>
    obtain ⟨k, hk, rfl, rfl, rfl, hpre⟩ := hrel
    have HPRE := Lib.hid hpre
    clear hpre
    by_cases hlt : k < n + 1
    · obtain ⟨t, ht⟩ : ∃ t, (cands p a).getD k 0 = t := ⟨_, rfl⟩
      have HTK := Lib.hid ht
      have htr : 0 ≤ t ∧ t ≤ 4611686018427387904 := by
        rw [← ht]
        match k with
        | 0 => exact ⟨h0, by show a ≤ _; omega⟩
        | j + 1 =>
          have hj : j < p.length := by rw [HR.out.1]; omega
          have := canon_times HCAN.out.1 (p[j]) (List.getElem_mem hj)
          have e : (cands p a).getD (j + 1) 0 = p[j].1 := by simp [cands, List.getD, hj]
          rw [e]
          exact this
      have htk : Hid (0 < k → t = (p.getD (k - 1) (0, 0)).1) := Lib.hid (fun hk0 => by
        obtain ⟨j, rfl⟩ : ∃ j, k = j + 1 := ⟨k - 1, by omega⟩
        have hj : j < p.length := by rw [HR.out.1]; omega
        rw [← ht]
        simp [cands, List.getD, hj])
      have ht0 : Hid (k = 0 → t = a) := Lib.hid (fun hk0 => by subst hk0; exact ht.symm)
      clear ht
      have hkk : (k : Int) - 1 < (n : Int) := by omega
      go_upto_if 43 with fail
      go_cut [11] (fun s wx => s = .int .i64 t ∧ wx = w.drewN q)
      case first =>
        by_cases hk0 : k = 0
        · have e := ht0.out hk0
          subst e
          have hneg : ¬ 0 ≤ (k : Int) - 1 := by omega
          have hnegd : decide (0 ≤ (k : Int) - 1) = false := by simpa using hneg
          clear hk0 hkk
          go_wp2
          go_meet
          exact ⟨rfl, rfl⟩
        · have e := Lib.hid (htk.out (by omega))
          obtain ⟨b, off, rfl, _, hc1, hc2⟩ := HR.out.cells (k := k - 1) (by omega)
          rw [← e.out] at hc1
          have hpos : 0 ≤ (k : Int) - 1 := by omega
          have hkp : 0 < k := by omega
          have hposd : decide (0 ≤ (k : Int) - 1) = true := by simpa using hpos
          clear hc2 e
          go_wp2
          go_meet
          exact ⟨rfl, rfl⟩
      case rest =>
        obtain ⟨rfl, hw⟩ := hcut
        subst hw
        clear htk ht0
        have htry : Hid (tryF p a l m t = decide (a ≤ t ∧ t < NEVER ∧ m ≤ leastR p t (plusZ t l))) := Lib.hid rfl
        by_cases g1 : a ≤ t
        · by_cases g2 : t < 4611686018427387904
          · go_wp2_with fail
            refine (refPlus_any t l _ (by omega) (by omega) hl1 hl2).mono ?_
            rintro e w2 ⟨rfl, hw2⟩
            subst hw2
            go_wp2_with fail
            refine (refleast_any _ _ _ p _ _ _ _ (HR.out.drewN q) (by omega)).mono ?_
            rintro e w2 ⟨rfl, hw2⟩
            subst hw2
            obtain ⟨y, hy⟩ : ∃ y, leastR p t (plusZ t l) = y := ⟨_, rfl⟩
            rw [hy] at htry
            rw [hy]
            clear hy
            by_cases g3 : m ≤ y
            · have hyes : Hid (tryF p a l m t = true) := Lib.hid (by rw [htry.out]; exact decide_eq_true ⟨g1, g2, g3⟩)
              have hr : r = (t, true) := by
                rw [HF.out, find_first (tryF p a l m) 0 (cands p a) k (by simp [cands]; have := HR.out.1; omega) HPRE.out (by rw [HTK.out]; exact hyes.out), HTK.out]
              subst hr
              clear HF
              go_wp2
              go_ret2
              exact ⟨rfl, q, rfl⟩
            · have hno : Hid (tryF p a l m t = false) := Lib.hid (by rw [htry.out]; exact decide_eq_false (fun h => g3 h.2.2))
              have hnx : Hid (∀ j, j < k + 1 → tryF p a l m ((cands p a).getD j 0) = false) := Lib.hid (by
                intro j hj
                rcases Nat.lt_or_ge j k with h | h
                · exact HPRE.out j h
                · obtain rfl : j = k := by omega
                  rw [HTK.out]; exact hno.out)
              go_wp2
              go_roundg (n + 1 - (k + 1))
              case measure => omega
              case rel => exact ⟨k + 1, by omega, rfl, by go_num, rfl, hnx.out⟩
          · have hno : Hid (tryF p a l m t = false) := Lib.hid (by rw [htry.out]; exact decide_eq_false (fun h => g2 h.2.1))
            have hnx : Hid (∀ j, j < k + 1 → tryF p a l m ((cands p a).getD j 0) = false) := Lib.hid (by
              intro j hj
              rcases Nat.lt_or_ge j k with h | h
              · exact HPRE.out j h
              · obtain rfl : j = k := by omega
                rw [HTK.out]; exact hno.out)
            go_wp2
            go_roundg (n + 1 - (k + 1))
            case measure => omega
            case rel => exact ⟨k + 1, by omega, rfl, by go_num, rfl, hnx.out⟩
        · have hno : Hid (tryF p a l m t = false) := Lib.hid (by rw [htry.out]; exact decide_eq_false (fun h => g1 h.1))
          have hnx : Hid (∀ j, j < k + 1 → tryF p a l m ((cands p a).getD j 0) = false) := Lib.hid (by
            intro j hj
            rcases Nat.lt_or_ge j k with h | h
            · exact HPRE.out j h
            · obtain rfl : j = k := by omega
              rw [HTK.out]; exact hno.out)
          go_wp2
          go_roundg (n + 1 - (k + 1))
          case measure => omega
          case rel => exact ⟨k + 1, by omega, rfl, by go_num, rfl, hnx.out⟩
    · have hr : r = (0, false) := by
        rw [HF.out, find_none (tryF p a l m) 0 (cands p a) (fun j hj => HPRE.out j (by simp [cands] at hj; have := HR.out.1; omega))]
      subst hr
      clear HF
      have hd : decide ((k : Int) - 1 < (n : Int)) = false := by simp; omega
      have hd2 : ¬ (k : Int) - 1 < (n : Int) := by omega
      go_wp2
      go_ret2
      exact ⟨rfl, q, rfl⟩

set_option maxRecDepth 100000 in
set_option maxHeartbeats 1000000 in
theorem refFirst_any (A : Option Addr) (n c : Nat) (p : List (Int × Int)) (a l m : Int) (w : World) (hr : RS w w.heap.size A n p) (hn : n ≤ maxLen) (ha2 : a ≤ 9223372036854775807) (hl1 : -9223372036854775808 ≤ l) (hl2 : l ≤ 9223372036854775807) :
    Calls Try.prog 23 #[.slice A n c, .int .i64 a, .int .i64 l, .int .i64 m] w fun e w' => e = .returned (.tuple #[.int .i64 (firstR p a l m).1, .bool (firstR p a l m).2]) ∧ ∃ q, w' = w.drewN q := by
  have HR := Lib.hid hr
  have HN := Lib.hid hn
  cases hp : rightP p with
  | false =>
    have HP := Lib.hid hp
    have e := firstR_bad (p := p) (a := a) (l := l) (n := m) (fun h => by rw [HP.out] at h; cases h.1)
    rw [e]
    clear e
    go_enter Try.func23, Try.ntmps23
    go_wp2_with fail
    refine (refRightS_any _ _ _ p _ _ HR.out HN.out).mono ?_
    rintro e w1 ⟨rfl, q, rfl⟩
    rw [HP.out]
    go_wp2
    go_ret2
    exact ⟨rfl, q, rfl⟩
  | true =>
    have HP := Lib.hid hp
    by_cases h0 : a < 0
    · have e := firstR_bad (p := p) (a := a) (l := l) (n := m) (fun h => by omega)
      rw [e]
      clear e
      go_enter Try.func23, Try.ntmps23
      go_wp2_with fail
      refine (refRightS_any _ _ _ p _ _ HR.out HN.out).mono ?_
      rintro e w1 ⟨rfl, q, rfl⟩
      rw [HP.out]
      go_wp2
      go_ret2
      exact ⟨rfl, q, rfl⟩
    · by_cases h1 : 4611686018427387904 ≤ a
      · have e := firstR_bad (p := p) (a := a) (l := l) (n := m) (fun h => by omega)
        rw [e]
        clear e
        go_enter Try.func23, Try.ntmps23
        go_wp2_with fail
        refine (refRightS_any _ _ _ p _ _ HR.out HN.out).mono ?_
        rintro e w1 ⟨rfl, q, rfl⟩
        rw [HP.out]
        go_wp2
        go_ret2
        exact ⟨rfl, q, rfl⟩
      · by_cases h2 : l < 1
        · have e := firstR_bad (p := p) (a := a) (l := l) (n := m) (fun h => by omega)
          rw [e]
          clear e
          go_enter Try.func23, Try.ntmps23
          go_wp2_with fail
          refine (refRightS_any _ _ _ p _ _ HR.out HN.out).mono ?_
          rintro e w1 ⟨rfl, q, rfl⟩
          rw [HP.out]
          go_wp2
          go_ret2
          exact ⟨rfl, q, rfl⟩
        · by_cases h3 : m < 0
          · have e := firstR_bad (p := p) (a := a) (l := l) (n := m) (fun h => by omega)
            rw [e]
            clear e
            go_enter Try.func23, Try.ntmps23
            go_wp2_with fail
            refine (refRightS_any _ _ _ p _ _ HR.out HN.out).mono ?_
            rintro e w1 ⟨rfl, q, rfl⟩
            rw [HP.out]
            go_wp2
            go_ret2
            exact ⟨rfl, q, rfl⟩
          · by_cases h4 : 1048576 < m
            · have e := firstR_bad (p := p) (a := a) (l := l) (n := m) (fun h => by omega)
              rw [e]
              clear e
              go_enter Try.func23, Try.ntmps23
              go_wp2_with fail
              refine (refRightS_any _ _ _ p _ _ HR.out HN.out).mono ?_
              rintro e w1 ⟨rfl, q, rfl⟩
              rw [HP.out]
              go_wp2
              go_ret2
              exact ⟨rfl, q, rfl⟩
            · exact refFirst_good A n c p a l m w hr hn ha2 hl1 hl2 hp (by omega) (by omega) (by omega) (by omega) (by omega)


end Go.Proofs.Ytiilnacfdgmfcaa
