/- The program's Take and Give of layer 3 (step): what they answer of any list of steps, span and number. -/
import Derived.Test.YtkhnlbkghjjdnaaStepPAdd
namespace Go.Proofs.Ytkhnlbkghjjdnaa
open Go.RowKit

/-- steps in new memory, and an error's number -/
def OPost (l : List (Int × Int)) (er : Int) (w : World) (e : Ending) (w' : World) : Prop := ∃ v, e = .returned (.tuple #[v, .int .i64 er]) ∧ SOwn w v l w'
theorem OPost.post {l : List (Int × Int)} {er : Int} {w w' : World} {e : Ending} (h : OPost l er w e w') : SPost l er w e w' := by
  obtain ⟨v, rfl, h2⟩ := h
  exact spost_own h2
theorem calls_opost {P : Program} {f : FuncId} {args : Array Value} {w : World} {r : List (Int × Int) × Int} {l : List (Int × Int)} {er : Int} (h : Calls P f args w (OPost r.1 r.2 w)) (e : r = (l, er)) : Calls P f args w (OPost l er w) := by
  subst e; exact h

set_option maxRecDepth 100000 in
set_option maxHeartbeats 2000000 in
theorem stepTake_own (A : Option Addr) (n c : Nat) (p : List (Int × Int)) (a b k : Int) (w : World) (hr : RS w w.heap.size A n p) (hnil : A = none → c = 0) (hnc : n ≤ c) (hn : n ≤ 2000) :
    Calls Try.prog 25 #[.slice A n c, .int .i64 a, .int .i64 b, .int .i64 k] w (OPost (takeR p a b k).1 (takeR p a b k).2 w) := by
  have HR := Lib.hid hr
  have HN := Lib.hid hn
  have HN3 : Hid (n ≤ 3000) := Lib.hid (by omega)
  have HNC := Lib.hid hnc
  have HNIL := Lib.hid hnil
  clear hr hn hnc hnil
  cases hp : rightP p with
  | false =>
    have e0 : takeR p a b k = (p, 1) := by unfold takeR mayP; rw [hp]; rfl
    rw [e0]
    have HP := Lib.hid hp
    clear hp e0
    go_enter Try.func25, Try.ntmps25
    go_wp2_with fail
    refine (right_b HR.out HN.out HP.out).mono ?_
    rintro e w1 ⟨rfl, hB⟩
    have HB := Lib.hid hB
    clear hB
    go_wp2_with fail
    refine (clone_next _ _ _ p _ (HR.out.next HB.out) HNIL.out HN3.out w HB.out).mono ?_
    rintro e w5 ⟨v5, rfl, ho5⟩
    have HO5 := Lib.hid ho5
    clear ho5
    go_wp2
    go_ret2
    exact ⟨_, rfl, HO5.out⟩
  | true =>
    have HP := Lib.hid hp
    cases hs : spanB a b with
    | false =>
      have e0 : takeR p a b k = (p, 1) := by
        unfold takeR
        rw [if_pos]
        rw [Bool.and_eq_false_iff]
        left
        cases h : mayP p a b with
        | false => rfl
        | true =>
          have h1 := ((mayP_iff p a b).1 h).2
          unfold NEVER at h1
          unfold spanB at hs
          rw [decide_eq_false_iff_not] at hs
          exact absurd (by omega) hs
      rw [e0]
      have HS := Lib.hid hs
      clear hp hs e0
      go_enter Try.func25, Try.ntmps25
      go_wp2_with fail
      refine (right_b HR.out HN.out HP.out).mono ?_
      rintro e w1 ⟨rfl, hB⟩
      have HB := Lib.hid hB
      clear hB
      go_wp2_with fail
      refine (span_b HS.out).mono ?_
      rintro e w2 ⟨rfl, rfl⟩
      go_wp2_with fail
      refine (clone_next _ _ _ p _ (HR.out.next HB.out) HNIL.out HN3.out w HB.out).mono ?_
      rintro e w5 ⟨v5, rfl, ho5⟩
      have HO5 := Lib.hid ho5
      clear ho5
      go_wp2
      go_ret2
      exact ⟨_, rfl, HO5.out⟩
    | true =>
      have HS := Lib.hid hs
      cases hm : amtB k with
      | false =>
        have e0 : takeR p a b k = (p, 1) := by
          unfold takeR
          rw [if_pos]
          rw [Bool.and_eq_false_iff]
          right
          unfold MAXF
          exact hm
        rw [e0]
        have HM := Lib.hid hm
        clear hp hs hm e0
        go_enter Try.func25, Try.ntmps25
        go_wp2_with fail
        refine (right_b HR.out HN.out HP.out).mono ?_
        rintro e w1 ⟨rfl, hB⟩
        have HB := Lib.hid hB
        clear hB
        go_wp2_with fail
        refine (span_b HS.out).mono ?_
        rintro e w2 ⟨rfl, rfl⟩
        go_wp2_with fail
        refine (amount_b HM.out).mono ?_
        rintro e w2 ⟨rfl, rfl⟩
        go_wp2_with fail
        refine (clone_next _ _ _ p _ (HR.out.next HB.out) HNIL.out HN3.out w HB.out).mono ?_
        rintro e w5 ⟨v5, rfl, ho5⟩
        have HO5 := Lib.hid ho5
        clear ho5
        go_wp2
        go_ret2
        exact ⟨_, rfl, HO5.out⟩
      | true =>
        have hs' := hs
        unfold spanB at hs'
        rw [decide_eq_true_eq] at hs'
        have hk := hm
        unfold amtB at hk
        rw [decide_eq_true_eq] at hk
        obtain ⟨hc, hbd, hl⟩ := (rightP_iff p).1 hp
        have g0 : 0 ≤ a := by omega
        have g1 : a < b := by omega
        have g2 : b ≤ NEVER := by unfold NEVER; omega
        have hmay : (mayP p a b && decide (0 ≤ k ∧ k ≤ MAXF)) = true := by
          rw [Bool.and_eq_true]
          exact ⟨(mayP_iff p a b).2 ⟨⟨hc, hbd, hl⟩, g0, g1, g2⟩, hm⟩
        have hle : minL (durL p a b) = leastL p a b := minL_is hc hbd g0 g1
        have hrange := least_range hc hbd g0 g1
        have e0 : takeR p a b k = if leastL p a b < k then (p, 5) else if 1024 < (addQ p a b (-k)).length then (p, 4) else (addQ p a b (-k), 0) := by
          unfold takeR
          rw [if_neg (by rw [hmay]; simp), addQ_is hc g0 g1 g2]
        obtain ⟨m, hm0⟩ : ∃ m, leastL p a b = m := ⟨_, rfl⟩
        rw [hm0] at hle hrange e0
        obtain ⟨r, hr0⟩ : ∃ r, takeR p a b k = r := ⟨_, rfl⟩
        rw [hr0] at e0 ⊢
        have HLE := Lib.hid hle
        have HE := Lib.hid e0
        have HM := Lib.hid hm
        have HC := Lib.hid hc
        have HBD := Lib.hid hbd
        have HG : Hid (0 ≤ a ∧ a < b ∧ b ≤ 4611686018427387904) := Lib.hid ⟨g0, g1, by omega⟩
        have HL : Hid (n ≤ 1024) := Lib.hid (by have := HR.out.1; omega)
        have hk1 := hk.1
        have hk2 := hk.2
        have hr1 := hrange.1
        have hr2 := hrange.2
        clear hp hs hm hs' hk hc hbd hl g0 g1 g2 hmay hle e0 hm0 hr0 hrange
        go_enter Try.func25, Try.ntmps25
        go_wp2_with fail
        refine (right_b HR.out HN.out HP.out).mono ?_
        rintro e w1 ⟨rfl, hB⟩
        have HB := Lib.hid hB
        clear hB
        go_wp2_with fail
        refine (span_b HS.out).mono ?_
        rintro e w2 ⟨rfl, rfl⟩
        go_wp2_with fail
        refine (amount_b HM.out).mono ?_
        rintro e w2 ⟨rfl, rfl⟩
        go_wp2_with fail
        refine (stepDuring_any _ _ _ p a b _ (HR.out.next HB.out) HNC.out HN.out HC.out HG.out.1 HG.out.2.1 HG.out.2.2).mono ?_
        rintro e w2 ⟨A2, n2, c2, rfl, hr2', hn2, hB2⟩
        have HR2 := Lib.hid hr2'
        have HB2 : Hid (Below w.heap.size w w2) := Lib.hid (HB.out.trans (hB2.mono HB.out.size))
        have HN2 := Lib.hid hn2
        clear hr2' hB2 hn2
        go_wp2_with fail
        refine (calls_int (stepLeastL_any _ _ _ _ _ HR2.out HN2.out) HLE.out).mono ?_
        rintro e w3 ⟨rfl, hB3⟩
        have HB3 : Hid (Below w.heap.size w w3) := Lib.hid (HB2.out.trans (hB3.mono HB2.out.size))
        clear hB3
        by_cases hbad : m < k
        · obtain rfl : r = (p, 5) := by rw [HE.out, if_pos (by omega)]
          go_wp2_with fail
          refine (clone_next _ _ _ p _ (HR.out.next HB3.out) HNIL.out HN3.out w HB3.out).mono ?_
          rintro e w5 ⟨v5, rfl, ho5⟩
          have HO5 := Lib.hid ho5
          clear ho5
          go_wp2
          go_ret2
          exact ⟨_, rfl, HO5.out⟩
        · have HE2 : Hid (r = if 1024 < (addQ p a b (-k)).length then (p, 4) else (addQ p a b (-k), 0)) := Lib.hid (by rw [HE.out, if_neg (by omega)])
          have hbadb : decide (m < k) = false := by simpa using hbad
          go_wp2_with fail
          refine (add_any _ n c p a b (-k) _ (HR.out.next HB3.out) HNIL.out HL.out HC.out HBD.out HG.out.1 HG.out.2.1 (by omega) (by omega)).mono ?_
          rintro e w5 (⟨hL, v5, rfl, ho5⟩ | ⟨hL, v5, rfl, ho5⟩)
          · obtain rfl : r = (addQ p a b (-k), 0) := by rw [HE2.out, if_neg (by omega)]
            have HO5 : Hid (SOwn w v5 (addQ p a b (-k)) w5) := Lib.hid ⟨own_base ho5.1 HB3.out.size, HB3.out.trans (ho5.2.mono HB3.out.size)⟩
            clear ho5
            go_wp2
            go_ret2
            exact ⟨_, rfl, HO5.out⟩
          · obtain rfl : r = (p, 4) := by rw [HE2.out, if_pos hL]
            have HO5 : Hid (SOwn w v5 p w5) := Lib.hid ⟨own_base ho5.1 HB3.out.size, HB3.out.trans (ho5.2.mono HB3.out.size)⟩
            clear ho5
            go_wp2
            go_ret2
            exact ⟨_, rfl, HO5.out⟩

set_option maxRecDepth 100000 in
set_option maxHeartbeats 2000000 in
theorem stepGive_own (A : Option Addr) (n c : Nat) (p : List (Int × Int)) (a b k : Int) (w : World) (hr : RS w w.heap.size A n p) (hnil : A = none → c = 0) (hnc : n ≤ c) (hn : n ≤ 2000) :
    Calls Try.prog 33 #[.slice A n c, .int .i64 a, .int .i64 b, .int .i64 k] w (OPost (giveR p a b k).1 (giveR p a b k).2 w) := by
  have HR := Lib.hid hr
  have HN := Lib.hid hn
  have HN3 : Hid (n ≤ 3000) := Lib.hid (by omega)
  have HNC := Lib.hid hnc
  have HNIL := Lib.hid hnil
  clear hr hn hnc hnil
  cases hp : rightP p with
  | false =>
    have e0 : giveR p a b k = (p, 1) := by unfold giveR mayP; rw [hp]; rfl
    rw [e0]
    have HP := Lib.hid hp
    clear hp e0
    go_enter Try.func33, Try.ntmps33
    go_wp2_with fail
    refine (right_b HR.out HN.out HP.out).mono ?_
    rintro e w1 ⟨rfl, hB⟩
    have HB := Lib.hid hB
    clear hB
    go_wp2_with fail
    refine (clone_next _ _ _ p _ (HR.out.next HB.out) HNIL.out HN3.out w HB.out).mono ?_
    rintro e w5 ⟨v5, rfl, ho5⟩
    have HO5 := Lib.hid ho5
    clear ho5
    go_wp2
    go_ret2
    exact ⟨_, rfl, HO5.out⟩
  | true =>
    have HP := Lib.hid hp
    cases hs : spanB a b with
    | false =>
      have e0 : giveR p a b k = (p, 1) := by
        unfold giveR
        rw [if_pos]
        rw [Bool.and_eq_false_iff]
        left
        cases h : mayP p a b with
        | false => rfl
        | true =>
          have h1 := ((mayP_iff p a b).1 h).2
          unfold NEVER at h1
          unfold spanB at hs
          rw [decide_eq_false_iff_not] at hs
          exact absurd (by omega) hs
      rw [e0]
      have HS := Lib.hid hs
      clear hp hs e0
      go_enter Try.func33, Try.ntmps33
      go_wp2_with fail
      refine (right_b HR.out HN.out HP.out).mono ?_
      rintro e w1 ⟨rfl, hB⟩
      have HB := Lib.hid hB
      clear hB
      go_wp2_with fail
      refine (span_b HS.out).mono ?_
      rintro e w2 ⟨rfl, rfl⟩
      go_wp2_with fail
      refine (clone_next _ _ _ p _ (HR.out.next HB.out) HNIL.out HN3.out w HB.out).mono ?_
      rintro e w5 ⟨v5, rfl, ho5⟩
      have HO5 := Lib.hid ho5
      clear ho5
      go_wp2
      go_ret2
      exact ⟨_, rfl, HO5.out⟩
    | true =>
      have HS := Lib.hid hs
      cases hm : amtB k with
      | false =>
        have e0 : giveR p a b k = (p, 1) := by
          unfold giveR
          rw [if_pos]
          rw [Bool.and_eq_false_iff]
          right
          unfold MAXF
          exact hm
        rw [e0]
        have HM := Lib.hid hm
        clear hp hs hm e0
        go_enter Try.func33, Try.ntmps33
        go_wp2_with fail
        refine (right_b HR.out HN.out HP.out).mono ?_
        rintro e w1 ⟨rfl, hB⟩
        have HB := Lib.hid hB
        clear hB
        go_wp2_with fail
        refine (span_b HS.out).mono ?_
        rintro e w2 ⟨rfl, rfl⟩
        go_wp2_with fail
        refine (amount_b HM.out).mono ?_
        rintro e w2 ⟨rfl, rfl⟩
        go_wp2_with fail
        refine (clone_next _ _ _ p _ (HR.out.next HB.out) HNIL.out HN3.out w HB.out).mono ?_
        rintro e w5 ⟨v5, rfl, ho5⟩
        have HO5 := Lib.hid ho5
        clear ho5
        go_wp2
        go_ret2
        exact ⟨_, rfl, HO5.out⟩
      | true =>
        have hs' := hs
        unfold spanB at hs'
        rw [decide_eq_true_eq] at hs'
        have hk := hm
        unfold amtB at hk
        rw [decide_eq_true_eq] at hk
        obtain ⟨hc, hbd, hl⟩ := (rightP_iff p).1 hp
        have g0 : 0 ≤ a := by omega
        have g1 : a < b := by omega
        have g2 : b ≤ NEVER := by unfold NEVER; omega
        have hmay : (mayP p a b && decide (0 ≤ k ∧ k ≤ MAXF)) = true := by
          rw [Bool.and_eq_true]
          exact ⟨(mayP_iff p a b).2 ⟨⟨hc, hbd, hl⟩, g0, g1, g2⟩, hm⟩
        have hle : maxL (durL p a b) = mostL p a b := maxL_is hc hbd g0 g1
        have hrange := most_range hc hbd g0 g1
        have e0 : giveR p a b k = if MAXF < mostL p a b + k then (p, 9) else if 1024 < (addQ p a b k).length then (p, 4) else (addQ p a b k, 0) := by
          unfold giveR
          rw [if_neg (by rw [hmay]; simp), addQ_is hc g0 g1 g2]
        obtain ⟨m, hm0⟩ : ∃ m, mostL p a b = m := ⟨_, rfl⟩
        rw [hm0] at hle hrange e0
        obtain ⟨r, hr0⟩ : ∃ r, giveR p a b k = r := ⟨_, rfl⟩
        rw [hr0] at e0 ⊢
        have HLE := Lib.hid hle
        have HE := Lib.hid e0
        have HM := Lib.hid hm
        have HC := Lib.hid hc
        have HBD := Lib.hid hbd
        have HG : Hid (0 ≤ a ∧ a < b ∧ b ≤ 4611686018427387904) := Lib.hid ⟨g0, g1, by omega⟩
        have HL : Hid (n ≤ 1024) := Lib.hid (by have := HR.out.1; omega)
        have hk1 := hk.1
        have hk2 := hk.2
        have hr1 := hrange.1
        have hr2 := hrange.2
        clear hp hs hm hs' hk hc hbd hl g0 g1 g2 hmay hle e0 hm0 hr0 hrange
        go_enter Try.func33, Try.ntmps33
        go_wp2_with fail
        refine (right_b HR.out HN.out HP.out).mono ?_
        rintro e w1 ⟨rfl, hB⟩
        have HB := Lib.hid hB
        clear hB
        go_wp2_with fail
        refine (span_b HS.out).mono ?_
        rintro e w2 ⟨rfl, rfl⟩
        go_wp2_with fail
        refine (amount_b HM.out).mono ?_
        rintro e w2 ⟨rfl, rfl⟩
        go_wp2_with fail
        refine (stepDuring_any _ _ _ p a b _ (HR.out.next HB.out) HNC.out HN.out HC.out HG.out.1 HG.out.2.1 HG.out.2.2).mono ?_
        rintro e w2 ⟨A2, n2, c2, rfl, hr2', hn2, hB2⟩
        have HR2 := Lib.hid hr2'
        have HB2 : Hid (Below w.heap.size w w2) := Lib.hid (HB.out.trans (hB2.mono HB.out.size))
        have HN2 := Lib.hid hn2
        clear hr2' hB2 hn2
        go_wp2_with fail
        refine (calls_int (stepMostL_any _ _ _ _ _ HR2.out HN2.out) HLE.out).mono ?_
        rintro e w3 ⟨rfl, hB3⟩
        have HB3 : Hid (Below w.heap.size w w3) := Lib.hid (HB2.out.trans (hB3.mono HB2.out.size))
        clear hB3
        by_cases hbad : 1048576 - k < m
        · obtain rfl : r = (p, 9) := by rw [HE.out, if_pos (by unfold MAXF; omega)]
          go_wp2_with fail
          refine (clone_next _ _ _ p _ (HR.out.next HB3.out) HNIL.out HN3.out w HB3.out).mono ?_
          rintro e w5 ⟨v5, rfl, ho5⟩
          have HO5 := Lib.hid ho5
          clear ho5
          go_wp2
          go_ret2
          exact ⟨_, rfl, HO5.out⟩
        · have HE2 : Hid (r = if 1024 < (addQ p a b k).length then (p, 4) else (addQ p a b k, 0)) := Lib.hid (by rw [HE.out, if_neg (by unfold MAXF; omega)])
          have hbadb : decide (1048576 - k < m) = false := by simpa using hbad
          go_wp2_with fail
          refine (add_any _ n c p a b k _ (HR.out.next HB3.out) HNIL.out HL.out HC.out HBD.out HG.out.1 HG.out.2.1 (by omega) (by omega)).mono ?_
          rintro e w5 (⟨hL, v5, rfl, ho5⟩ | ⟨hL, v5, rfl, ho5⟩)
          · obtain rfl : r = (addQ p a b k, 0) := by rw [HE2.out, if_neg (by omega)]
            have HO5 : Hid (SOwn w v5 (addQ p a b k) w5) := Lib.hid ⟨own_base ho5.1 HB3.out.size, HB3.out.trans (ho5.2.mono HB3.out.size)⟩
            clear ho5
            go_wp2
            go_ret2
            exact ⟨_, rfl, HO5.out⟩
          · obtain rfl : r = (p, 4) := by rw [HE2.out, if_pos hL]
            have HO5 : Hid (SOwn w v5 p w5) := Lib.hid ⟨own_base ho5.1 HB3.out.size, HB3.out.trans (ho5.2.mono HB3.out.size)⟩
            clear ho5
            go_wp2
            go_ret2
            exact ⟨_, rfl, HO5.out⟩

theorem stepTake_any (A : Option Addr) (n c : Nat) (p : List (Int × Int)) (a b k : Int) (w : World) (hr : RS w w.heap.size A n p) (hnil : A = none → c = 0) (hnc : n ≤ c) (hn : n ≤ 2000) :
    Calls Try.prog 25 #[.slice A n c, .int .i64 a, .int .i64 b, .int .i64 k] w (SPost (takeR p a b k).1 (takeR p a b k).2 w) := (stepTake_own A n c p a b k w hr hnil hnc hn).mono fun _ _ h => h.post
theorem stepGive_any (A : Option Addr) (n c : Nat) (p : List (Int × Int)) (a b k : Int) (w : World) (hr : RS w w.heap.size A n p) (hnil : A = none → c = 0) (hnc : n ≤ c) (hn : n ≤ 2000) :
    Calls Try.prog 33 #[.slice A n c, .int .i64 a, .int .i64 b, .int .i64 k] w (SPost (giveR p a b k).1 (giveR p a b k).2 w) := (stepGive_own A n c p a b k w hr hnil hnc hn).mono fun _ _ h => h.post

end Go.Proofs.Ytkhnlbkghjjdnaa
