/- The program's First of layer 3 (step): what it answers of any list of steps, time, length and number. -/
import Derived.Test.YtkhnlbkghjjdnaaStepPLeast
namespace Go.Proofs.Ytkhnlbkghjjdnaa
open Go.RowKit

theorem stepEnd_is {A : Option Addr} {n c : Nat} {p : List (Int × Int)} {k : Nat} {w : World} {B : Nat} {E : Int} (hr : RS w B A n p) (hn : n ≤ 2000) (hk : k < n) (h : endP p k = E) :
    Calls Try.prog 49 #[.slice A n c, .int .i64 k] w fun e w' => e = .returned (.int .i64 E) ∧ w = w' := by
  subst h; exact stepEnd_any A n c p k w B hr hn hk
theorem plus_is {s l x : Int} {w : World} (h : plusZ s l = x) : Calls Try.prog 24 #[.int .i64 s, .int .i64 l] w fun e w' => e = .returned (.int .i64 x) ∧ w = w' := by
  subst h; exact whenPlus_any s l w

set_option maxRecDepth 100000 in
set_option maxHeartbeats 2000000 in
theorem stepFirst_any (A : Option Addr) (n c : Nat) (p : List (Int × Int)) (a l m : Int) (w : World) (hr : RS w w.heap.size A n p) (hn : n ≤ 2000) (hl1 : -9223372036854775808 ≤ l) (hl2 : l ≤ 9223372036854775807) :
    Calls Try.prog 26 #[.slice A n c, .int .i64 a, .int .i64 l, .int .i64 m] w fun e w' => e = .returned (.tuple #[.int .i64 (firstR p a l m).1, .bool (firstR p a l m).2]) ∧ Below w.heap.size w w' := by
  have HR := Lib.hid hr
  have HN := Lib.hid hn
  clear hr hn
  cases hp : rightP p with
  | false =>
    have e0 : firstR p a l m = (0, false) := firstR_bad fun h => by rw [hp] at h; cases h.1
    rw [e0]
    have HP := Lib.hid hp
    clear hp e0
    go_enter Try.func26, Try.ntmps26
    go_wp2_with fail
    refine (right_b HR.out HN.out HP.out).mono ?_
    rintro e w1 ⟨rfl, hB⟩
    have HB := Lib.hid hB
    clear hB
    go_wp2
    go_ret2
    exact ⟨rfl, HB.out⟩
  | true =>
    have HP := Lib.hid hp
    cases hs : spanB a 4611686018427387904 with
    | false =>
      have e0 : firstR p a l m = (0, false) := firstR_bad fun h => by
        unfold spanB at hs
        rw [decide_eq_false_iff_not] at hs
        exact hs (by omega)
      rw [e0]
      have HS := Lib.hid hs
      clear hp hs e0
      go_enter Try.func26, Try.ntmps26
      go_wp2_with fail
      refine (right_b HR.out HN.out HP.out).mono ?_
      rintro e w1 ⟨rfl, hB⟩
      have HB := Lib.hid hB
      clear hB
      go_wp2_with fail
      refine (span_b HS.out).mono ?_
      rintro e w2 ⟨rfl, rfl⟩
      go_wp2
      go_ret2
      exact ⟨rfl, HB.out⟩
    | true =>
      have HS := Lib.hid hs
      by_cases hl : l < 1
      · have e0 : firstR p a l m = (0, false) := firstR_bad fun h => by omega
        rw [e0]
        clear hp hs e0
        go_enter Try.func26, Try.ntmps26
        go_wp2_with fail
        refine (right_b HR.out HN.out HP.out).mono ?_
        rintro e w1 ⟨rfl, hB⟩
        have HB := Lib.hid hB
        clear hB
        go_wp2_with fail
        refine (span_b HS.out).mono ?_
        rintro e w2 ⟨rfl, rfl⟩
        go_wp2
        go_ret2
        exact ⟨rfl, HB.out⟩
      · have hlb : decide (l < 1) = false := by simpa using hl
        cases hm : amtB m with
        | false =>
          have e0 : firstR p a l m = (0, false) := firstR_bad fun h => by
            unfold amtB at hm
            rw [decide_eq_false_iff_not] at hm
            exact hm (by omega)
          rw [e0]
          have HM := Lib.hid hm
          clear hp hs hm e0
          go_enter Try.func26, Try.ntmps26
          go_wp2_with fail
          refine (right_b HR.out HN.out HP.out).mono ?_
          rintro e w1 ⟨rfl, hB⟩
          have HB := Lib.hid hB
          clear hB
          go_wp2_with fail
          refine (span_b HS.out).mono ?_
          rintro e w2 ⟨rfl, rfl⟩
          go_wp2_with fail
          refine (amount_b HM.out).mono ?_
          rintro e w2 ⟨rfl, rfl⟩
          go_wp2
          go_ret2
          exact ⟨rfl, HB.out⟩
        | true =>
          have hs' := hs
          unfold spanB at hs'
          rw [decide_eq_true_eq] at hs'
          have hm' := hm
          unfold amtB at hm'
          rw [decide_eq_true_eq] at hm'
          obtain ⟨hc, hbd, hlen⟩ := (rightP_iff p).1 hp
          have ha0 : 0 ≤ a := hs'.1.1
          have haN : a < NEVER := by unfold NEVER; omega
          obtain ⟨I, hI⟩ : ∃ I, pos p a = I + 1 := ⟨pos p a - 1, by have := pos_canon hc ha0; omega⟩
          have hin : I < n := by have := pos_le p a; have := HR.out.1; omega
          have H0 : Hid (AtRound p a l m I a) := Lib.hid (by have := round_start hc ha0 haN (l := l) (n := m) (by omega); rwa [hI] at this)
          have HM := Lib.hid hm
          have HC := Lib.hid hc
          have HU := Lib.hid (canon_up hc)
          have HI := Lib.hid hI
          have HN4 : Hid (n ≤ 4000) := Lib.hid (by have := HN.out; omega)
          have HA : Hid (0 ≤ a ∧ a < NEVER ∧ 0 ≤ m ∧ m ≤ 1048576) := Lib.hid ⟨ha0, haN, hm'⟩
          have hN0 : NEVER = 4611686018427387904 := rfl
          have HNV := Lib.hid hN0
          have HLN : Hid (p.length = n) := Lib.hid HR.out.1
          have hl1' : 1 ≤ l := by omega
          clear hp hs hm hs' hm' hc hbd hlen hI ha0 haN hN0 hl
          obtain ⟨r, hr0⟩ : ∃ r, firstR p a l m = r := ⟨_, rfl⟩
          rw [hr0]
          have HRR := Lib.hid hr0
          clear hr0
          go_enter Try.func26, Try.ntmps26
          go_wp2_with fail
          refine (right_b HR.out HN.out HP.out).mono ?_
          rintro e w1 ⟨rfl, hB⟩
          have HB := Lib.hid hB
          clear hB
          go_wp2_with fail
          refine (span_b HS.out).mono ?_
          rintro e w2 ⟨rfl, rfl⟩
          go_wp2_with fail
          refine (amount_b HM.out).mono ?_
          rintro e w2 ⟨rfl, rfl⟩
          go_wp2_with fail
          refine (stepAt_is _ _ _ I p a _ (HR.out.next HB.out) HN4.out HU.out HI.out).mono ?_
          rintro e w2 ⟨rfl, hB2⟩
          have HB2 : Hid (Below w.heap.size w w2) := Lib.hid (HB.out.trans (hB2.mono HB.out.size))
          clear hB2
          have HR2 := Lib.hid (HR.out.next HB2.out)
          go_wp2
          go_loop [10, 11] (fun u v => ∃ (k : Nat) (s : Int), u = .int .i64 s ∧ v = .int .i64 k ∧ k ≤ n ∧ AtRound p a l m k s) (fun _ v => n - (intOf v).toNat)
          case atStart => exact ⟨I, a, rfl, rfl, by omega, H0.out⟩
          case round =>
            obtain ⟨k, s, rfl, rfl, hkn, hI⟩ := hrel
            have HI := Lib.hid hI
            clear hI
            by_cases hsN : s < 4611686018427387904
            · have hk : k < n := by have := (HI.out.2.2.2 (by unfold NEVER; exact hsN)).1; rw [HLN.out] at this; exact this
              have hk2 : k < 2000 := by have := HN.out; omega
              have hs0 : 0 ≤ s := by have := HI.out.1; have := HA.out.1; omega
              obtain ⟨bk, off, rfl, _, hc1, hc2⟩ := HR2.out.cells hk
              have hLess : Hid ((p.getD k (0, 0)).2 < m → AtRound p a l m (k + 1) (endP p k)) := Lib.hid (fun h => round_less HC.out hl1' HI.out (by unfold NEVER; exact hsN) h)
              have hOn : Hid (m ≤ (p.getD k (0, 0)).2 → endP p k < plus s l → AtRound p a l m (k + 1) s) := Lib.hid (fun h h' => round_on HC.out HI.out (by unfold NEVER; exact hsN) hl1' h h')
              have hFound : Hid (m ≤ (p.getD k (0, 0)).2 → plus s l ≤ endP p k → r = (s, true)) := Lib.hid (fun h h' => HRR.out.symm.trans (round_found HC.out HP.out HA.out.1 HA.out.2.1 hl1' HA.out.2.2.1 HA.out.2.2.2 HI.out (by unfold NEVER; exact hsN) h h'))
              have hpl : plusZ s l = plus s l := plusZ_is hs0 (by omega) hl1'
              have HPL := Lib.hid hpl
              clear hpl
              generalize (p.getD k (0, 0)).1 = x at *
              generalize (p.getD k (0, 0)).2 = y at *
              obtain ⟨E, hE⟩ : ∃ E, endP p k = E := ⟨_, rfl⟩
              have HE := Lib.hid hE
              rw [hE] at hLess hOn hFound
              clear hE
              by_cases hf : y < m
              · have e1 := Lib.hid (hLess.out hf)
                clear hLess hOn hFound
                go_wp2_with fail
                refine (stepEnd_is HR2.out HN.out hk HE.out).mono ?_
                rintro e w3 ⟨rfl, rfl⟩
                go_wp2
                go_round
                case rel => exact ⟨k + 1, E, rfl, by go_num, by omega, e1.out⟩
                case measure => simp [intOf]; omega
              · have hf' : m ≤ y := by omega
                have hfb : decide (y < m) = false := by simpa using hf
                by_cases he : plus s l ≤ E
                · obtain rfl : r = (s, true) := hFound.out hf' he
                  clear hLess hOn hFound
                  go_wp2_with fail
                  refine (stepEnd_is HR2.out HN.out hk HE.out).mono ?_
                  rintro e w3 ⟨rfl, rfl⟩
                  go_wp2_with fail
                  refine (plus_is HPL.out).mono ?_
                  rintro e w3 ⟨rfl, rfl⟩
                  go_wp2
                  go_ret2
                  exact ⟨rfl, HB2.out⟩
                · have e1 := Lib.hid (hOn.out hf' (by omega))
                  clear hLess hOn hFound
                  have heb : decide (plus s l ≤ E) = false := by simpa using he
                  go_wp2_with fail
                  refine (stepEnd_is HR2.out HN.out hk HE.out).mono ?_
                  rintro e w3 ⟨rfl, rfl⟩
                  go_wp2_with fail
                  refine (plus_is HPL.out).mono ?_
                  rintro e w3 ⟨rfl, rfl⟩
                  go_wp2
                  go_round
                  case rel => exact ⟨k + 1, s, rfl, by go_num, by omega, e1.out⟩
                  case measure => simp [intOf]; omega
            · obtain rfl : r = (0, false) := HRR.out.symm.trans (round_none HP.out HA.out.1 HA.out.2.1 hl1' HA.out.2.2.1 HA.out.2.2.2 HI.out (by unfold NEVER; exact hsN))
              have hsb : decide (s < 4611686018427387904) = false := by simpa using hsN
              go_wp2
              go_ret2
              exact ⟨rfl, HB2.out⟩

end Go.Proofs.Ytkhnlbkghjjdnaa
