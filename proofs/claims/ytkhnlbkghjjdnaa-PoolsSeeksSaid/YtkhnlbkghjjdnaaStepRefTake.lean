/- The reference's Take and Give (bailiwickref03): what they answer of any list of steps, span and number. -/
import Derived.Test.YtkhnlbkghjjdnaaStepChange
namespace Go.Proofs.Ytkhnlbkghjjdnaa
open Go.RowKit

/-- steps and an error's number, read from whatever memory; all that was there is kept -/
def SPost (l : List (Int × Int)) (er : Int) (w : World) (e : Ending) (w' : World) : Prop :=
  (∃ A c, e = .returned (.tuple #[.slice A l.length c, .int .i64 er]) ∧ RS w' w'.heap.size A l.length l ∧ (A = none → c = 0) ∧ l.length ≤ c) ∧ Below w.heap.size w w'
theorem spost_own {l : List (Int × Int)} {er : Int} {w w' : World} {v : Value} (h : SOwn w v l w') : SPost l er w (.returned (.tuple #[v, .int .i64 er])) w' := by
  obtain ⟨A, c, rfl⟩ := own_form h.1
  refine ⟨⟨A, c, rfl, RS.of_own h.1, fun hA => ?_, own_cap h.1⟩, h.2⟩
  subst hA
  rcases h.1.2 with ⟨hv, _⟩ | ⟨g, cap, cur, hv, _⟩
  · injection hv
  · injection hv with hv
    cases hv
theorem spost_self {A : Option Addr} {n c : Nat} {p : List (Int × Int)} {er : Int} {w w' : World} (hr : RS w w.heap.size A n p) (hnil : A = none → c = 0) (hnc : n ≤ c) (hb : Below w.heap.size w w') : SPost p er w (.returned (.tuple #[.slice A n c, .int .i64 er])) w' := by
  have := hr.1
  subst this
  exact ⟨⟨A, c, rfl, hr.next hb, hnil, hnc⟩, hb⟩
theorem SOwn.undrew {w wr : World} {v : Value} {l : List (Int × Int)} {q : Nat} (h : SOwn (w.drewN q) v l wr) : SOwn w v l wr := ⟨h.1, (bel_drew w q).trans h.2⟩
/-- steps and an error's number; the steps lie in blocks that were 'ok', or in new ones -/
def SNew (ok : Nat → Prop) (l : List (Int × Int)) (er : Int) (w : World) (e : Ending) (w' : World) : Prop :=
  (∃ A c, e = .returned (.tuple #[.slice A l.length c, .int .i64 er]) ∧ RSo w' (fun b => b < w'.heap.size ∧ (ok b ∨ w.heap.size ≤ b)) A l.length l ∧ (A = none → c = 0) ∧ l.length ≤ c) ∧ Below w.heap.size w w'
theorem SNew.post {ok : Nat → Prop} {l : List (Int × Int)} {er : Int} {w w' : World} {e : Ending} (h : SNew ok l er w e w') : SPost l er w e w' := by
  obtain ⟨⟨A, c, h1, h2, h3⟩, hb⟩ := h
  exact ⟨⟨A, c, h1, h2.rs (fun b hb => hb.1), h3⟩, hb⟩
theorem snew_own {ok : Nat → Prop} {l : List (Int × Int)} {er : Int} {w w' : World} {v : Value} (h : SOwn w v l w') : SNew ok l er w (.returned (.tuple #[v, .int .i64 er])) w' := by
  obtain ⟨A, c, rfl⟩ := own_form h.1
  refine ⟨⟨A, c, rfl, ?_, fun hA => ?_, own_cap h.1⟩, h.2⟩
  · have hr := RS.of_own h.1
    refine ⟨hr.1, fun hn => ?_⟩
    obtain ⟨b, off, e, hb, hc⟩ := hr.2 hn
    refine ⟨b, off, e, ⟨hb, .inr ?_⟩, hc⟩
    exact (h.1.lt b (by rw [e]; rfl)).1
  · subst hA
    rcases h.1.2 with ⟨hv, _⟩ | ⟨g, cap, cur, hv, _⟩
    · injection hv
    · injection hv with hv
      cases hv
theorem snew_self {ok : Nat → Prop} {A : Option Addr} {n c : Nat} {p : List (Int × Int)} {er : Int} {w w' : World} (ho : RSo w ok A n p) (hr : RS w w.heap.size A n p) (hnil : A = none → c = 0) (hnc : n ≤ c) (hb : Below w.heap.size w w') : SNew ok p er w (.returned (.tuple #[.slice A n c, .int .i64 er])) w' := by
  have := hr.1
  subst this
  refine ⟨⟨A, c, rfl, ?_, hnil, hnc⟩, hb⟩
  refine ⟨ho.1, fun hn => ?_⟩
  obtain ⟨b, off, e, h1, hc⟩ := ho.2 hn
  obtain ⟨b', off', e', h1', _⟩ := hr.2 hn
  rw [e] at e'
  injection e' with e'
  injection e' with e1 e2
  subst e1 e2
  exact ⟨b, off, e, ⟨Nat.lt_of_lt_of_le h1' hb.size, .inl h1⟩, fun j hj => ⟨(hb.cell (p := ⟨b, off + j * 2, none⟩) h1').trans (hc j hj).1, (hb.cell (p := ⟨b, off + j * 2 + 1, none⟩) h1').trans (hc j hj).2⟩⟩
/-- the document's answers -/
def takeR (p : List (Int × Int)) (a b n : Int) : List (Int × Int) × Int :=
  if (mayP p a b && decide (0 ≤ n ∧ n ≤ MAXF)) = false then (p, 1)
  else if leastL p a b < n then (p, 5)
  else if 1024 < (changeL p a b (-n)).length then (p, 4) else (changeL p a b (-n), 0)
def giveR (p : List (Int × Int)) (a b n : Int) : List (Int × Int) × Int :=
  if (mayP p a b && decide (0 ≤ n ∧ n ≤ MAXF)) = false then (p, 1)
  else if MAXF < mostL p a b + n then (p, 9)
  else if 1024 < (changeL p a b n).length then (p, 4) else (changeL p a b n, 0)

theorem least_range {p : List (Int × Int)} (hp : Canon p) (hb : Bounded p) {a b : Int} (h0 : 0 ≤ a) (hab : a < b) : 0 ≤ leastL p a b ∧ leastL p a b ≤ 1048576 := by
  obtain ⟨t, _, _, h⟩ := (least_is hp h0 hab).2
  rw [← h]; exact atP_bounds hb t
theorem most_range {p : List (Int × Int)} (hp : Canon p) (hb : Bounded p) {a b : Int} (h0 : 0 ≤ a) (hab : a < b) : 0 ≤ mostL p a b ∧ mostL p a b ≤ 1048576 := by
  obtain ⟨t, _, _, h⟩ := (most_is hp h0 hab).2
  rw [← h]; exact atP_bounds hb t
set_option maxRecDepth 100000 in
set_option maxHeartbeats 2000000 in
theorem refTake_new (ok : Nat → Prop) (A : Option Addr) (n c : Nat) (p : List (Int × Int)) (a b k : Int) (w : World) (hro : RSo w ok A n p) (hr : RS w w.heap.size A n p) (hnil : A = none → c = 0) (hnc : n ≤ c) (hn : n ≤ maxLen) (hk1 : -9223372036854775808 ≤ k) (hk2 : k ≤ 9223372036854775807) :
    Calls Try.prog 31 #[.slice A n c, .int .i64 a, .int .i64 b, .int .i64 k] w (SNew ok (takeR p a b k).1 (takeR p a b k).2 w) := by
  have HO := Lib.hid hro
  clear hro
  have HR := Lib.hid hr
  have HN := Lib.hid hn
  have HNIL := Lib.hid hnil
  have HNC := Lib.hid hnc
  clear hr hn hnil hnc
  cases hm : mayP p a b with
  | false =>
    have ht : takeR p a b k = (p, 1) := by unfold takeR; rw [hm]; rfl
    rw [ht]
    have HM := Lib.hid hm
    clear hm ht
    go_enter Try.func31, Try.ntmps31
    go_wp2_with fail
    refine (refMay_any _ _ _ p _ _ _ _ HR.out HN.out).mono ?_
    rintro e w1 ⟨rfl, q, rfl⟩
    rw [HM.out]
    go_wp2
    go_ret2
    exact snew_self HO.out HR.out HNIL.out HNC.out (bel_drew _ _)
  | true =>
    by_cases h1 : k < 0
    · have ht : takeR p a b k = (p, 1) := by unfold takeR; rw [if_pos (by rw [hm, decide_eq_false (fun h => absurd h.1 (by omega))]; rfl)]
      rw [ht]
      have HM := Lib.hid hm
      clear hm ht
      go_enter Try.func31, Try.ntmps31
      go_wp2_with fail
      refine (refMay_any _ _ _ p _ _ _ _ HR.out HN.out).mono ?_
      rintro e w1 ⟨rfl, q, rfl⟩
      rw [HM.out]
      go_wp2
      go_ret2
      exact snew_self HO.out HR.out HNIL.out HNC.out (bel_drew _ _)
    · by_cases h2 : 1048576 < k
      · have ht : takeR p a b k = (p, 1) := by unfold takeR; rw [if_pos (by rw [hm, decide_eq_false (fun h => absurd h.2 (by unfold MAXF; omega))]; rfl)]
        rw [ht]
        have HM := Lib.hid hm
        clear hm ht
        go_enter Try.func31, Try.ntmps31
        go_wp2_with fail
        refine (refMay_any _ _ _ p _ _ _ _ HR.out HN.out).mono ?_
        rintro e w1 ⟨rfl, q, rfl⟩
        rw [HM.out]
        go_wp2
        go_ret2
        exact snew_self HO.out HR.out HNIL.out HNC.out (bel_drew _ _)
      · obtain ⟨⟨hcan, hbd, hlen⟩, g0, g1, g2⟩ := (mayP_iff p a b).1 hm
        have hq : (mayP p a b && decide (0 ≤ k ∧ k ≤ MAXF)) = true := by rw [hm]; unfold MAXF; simp; omega
        have hl := (leastR_is hcan (a := a) (b := b) g0)
        have hc := changeR_is hcan (d := -k) g0 g1 g2
        have hne : p ≠ [] := by rintro rfl; exact hcan
        have HN0 : Hid (0 < n) := Lib.hid (by rw [← HR.out.1]; exact List.length_pos_iff.2 hne)
        have HNS : Hid (n ≤ 2000) := Lib.hid (by have := HR.out.1; omega)
        have hrange := least_range hcan hbd g0 g1
        have HBD := Lib.hid hbd
        have HM := Lib.hid hm
        clear hm hcan hbd hlen hne g0 g1 g2
        by_cases h3 : leastL p a b < k
        · have ht : takeR p a b k = (p, 5) := by unfold takeR; rw [hq, if_neg (by simp), if_pos h3]
          rw [ht]
          rw [← hl] at h3 hrange
          clear ht hq hl hc
          obtain ⟨m, hm⟩ : ∃ m, leastR p a b = m := ⟨_, rfl⟩
          rw [hm] at h3 hrange
          have HL := Lib.hid hm
          clear hm
          go_enter Try.func31, Try.ntmps31
          go_wp2_with fail
          refine (refMay_any _ _ _ p _ _ _ _ HR.out HN.out).mono ?_
          rintro e w1 ⟨rfl, q, rfl⟩
          rw [HM.out]
          go_wp2_with fail
          refine (refleast_any _ _ _ p _ _ _ _ (HR.out.drewN q) HNS.out).mono ?_
          rintro e w1 ⟨rfl, rfl⟩
          rw [HL.out]
          go_wp2
          go_ret2
          exact snew_self HO.out HR.out HNIL.out HNC.out (bel_drew _ _)
        · have ht : takeR p a b k = if 1024 < (changeL p a b (-k)).length then (p, 4) else (changeL p a b (-k), 0) := by unfold takeR; rw [hq, if_neg (by simp), if_neg h3]
          rw [← hc] at ht
          obtain ⟨r, hr0⟩ : ∃ r, takeR p a b k = r := ⟨_, rfl⟩
          rw [hr0] at ht ⊢
          have HT := Lib.hid ht
          rw [← hl] at h3 hrange
          clear ht hq hl hc hr0
          obtain ⟨m, hm⟩ : ∃ m, leastR p a b = m := ⟨_, rfl⟩
          rw [hm] at h3 hrange
          have HL := Lib.hid hm
          clear hm
          go_enter Try.func31, Try.ntmps31
          go_wp2_with fail
          refine (refMay_any _ _ _ p _ _ _ _ HR.out HN.out).mono ?_
          rintro e w1 ⟨rfl, q, rfl⟩
          rw [HM.out]
          go_wp2_with fail
          refine (refleast_any _ _ _ p _ _ _ _ (HR.out.drewN q) HNS.out).mono ?_
          rintro e w1 ⟨rfl, rfl⟩
          rw [HL.out]
          go_wp2_with fail
          refine (change_any _ _ _ p _ _ (-k) _ ((HR.out.drewN q)) HNS.out HN0.out HBD.out (by omega) (by omega)).mono ?_
          rintro e w1 (⟨hL, v, rfl, hown⟩ | ⟨hL, rfl, hb⟩)
          · have hsp : Hid (SNew ok (changeR p a b (-k)) 0 w (.returned (.tuple #[v, .int .i64 0])) w1) := Lib.hid (snew_own hown.undrew)
            have hr1 : r = (changeR p a b (-k), 0) := by rw [HT.out, if_neg (by omega)]
            subst hr1
            clear hown
            go_wp2
            go_ret2
            exact hsp.out
          · have hr1 : r = (p, 4) := by rw [HT.out, if_pos hL]
            subst hr1
            have hbb : Hid (Below w.heap.size w w1) := Lib.hid ((bel_drew w q).trans hb)
            clear hb
            go_wp2
            go_ret2
            exact snew_self HO.out HR.out HNIL.out HNC.out hbb.out

set_option maxRecDepth 100000 in
set_option maxHeartbeats 2000000 in
theorem refGive_new (ok : Nat → Prop) (A : Option Addr) (n c : Nat) (p : List (Int × Int)) (a b k : Int) (w : World) (hro : RSo w ok A n p) (hr : RS w w.heap.size A n p) (hnil : A = none → c = 0) (hnc : n ≤ c) (hn : n ≤ maxLen) (hk1 : -9223372036854775808 ≤ k) (hk2 : k ≤ 9223372036854775807) :
    Calls Try.prog 32 #[.slice A n c, .int .i64 a, .int .i64 b, .int .i64 k] w (SNew ok (giveR p a b k).1 (giveR p a b k).2 w) := by
  have HO := Lib.hid hro
  clear hro
  have HR := Lib.hid hr
  have HN := Lib.hid hn
  have HNIL := Lib.hid hnil
  have HNC := Lib.hid hnc
  clear hr hn hnil hnc
  cases hm : mayP p a b with
  | false =>
    have ht : giveR p a b k = (p, 1) := by unfold giveR; rw [hm]; rfl
    rw [ht]
    have HM := Lib.hid hm
    clear hm ht
    go_enter Try.func32, Try.ntmps32
    go_wp2_with fail
    refine (refMay_any _ _ _ p _ _ _ _ HR.out HN.out).mono ?_
    rintro e w1 ⟨rfl, q, rfl⟩
    rw [HM.out]
    go_wp2
    go_ret2
    exact snew_self HO.out HR.out HNIL.out HNC.out (bel_drew _ _)
  | true =>
    by_cases h1 : k < 0
    · have ht : giveR p a b k = (p, 1) := by unfold giveR; rw [if_pos (by rw [hm, decide_eq_false (fun h => absurd h.1 (by omega))]; rfl)]
      rw [ht]
      have HM := Lib.hid hm
      clear hm ht
      go_enter Try.func32, Try.ntmps32
      go_wp2_with fail
      refine (refMay_any _ _ _ p _ _ _ _ HR.out HN.out).mono ?_
      rintro e w1 ⟨rfl, q, rfl⟩
      rw [HM.out]
      go_wp2
      go_ret2
      exact snew_self HO.out HR.out HNIL.out HNC.out (bel_drew _ _)
    · by_cases h2 : 1048576 < k
      · have ht : giveR p a b k = (p, 1) := by unfold giveR; rw [if_pos (by rw [hm, decide_eq_false (fun h => absurd h.2 (by unfold MAXF; omega))]; rfl)]
        rw [ht]
        have HM := Lib.hid hm
        clear hm ht
        go_enter Try.func32, Try.ntmps32
        go_wp2_with fail
        refine (refMay_any _ _ _ p _ _ _ _ HR.out HN.out).mono ?_
        rintro e w1 ⟨rfl, q, rfl⟩
        rw [HM.out]
        go_wp2
        go_ret2
        exact snew_self HO.out HR.out HNIL.out HNC.out (bel_drew _ _)
      · obtain ⟨⟨hcan, hbd, hlen⟩, g0, g1, g2⟩ := (mayP_iff p a b).1 hm
        have hq : (mayP p a b && decide (0 ≤ k ∧ k ≤ MAXF)) = true := by rw [hm]; unfold MAXF; simp; omega
        have hl := (mostR_is hcan (a := a) (b := b) g0)
        have hc := changeR_is hcan (d := k) g0 g1 g2
        have hne : p ≠ [] := by rintro rfl; exact hcan
        have HN0 : Hid (0 < n) := Lib.hid (by rw [← HR.out.1]; exact List.length_pos_iff.2 hne)
        have HNS : Hid (n ≤ 2000) := Lib.hid (by have := HR.out.1; omega)
        have hrange := most_range hcan hbd g0 g1
        have HBD := Lib.hid hbd
        have HM := Lib.hid hm
        clear hm hcan hbd hlen hne g0 g1 g2
        by_cases h3 : MAXF < mostL p a b + k
        · have ht : giveR p a b k = (p, 9) := by unfold giveR; rw [hq, if_neg (by simp), if_pos h3]
          rw [ht]
          rw [← hl] at h3 hrange
          clear ht hq hl hc
          obtain ⟨m, hm⟩ : ∃ m, mostR p a b = m := ⟨_, rfl⟩
          rw [hm] at h3 hrange
          unfold MAXF at h3
          have HL := Lib.hid hm
          clear hm
          go_enter Try.func32, Try.ntmps32
          go_wp2_with fail
          refine (refMay_any _ _ _ p _ _ _ _ HR.out HN.out).mono ?_
          rintro e w1 ⟨rfl, q, rfl⟩
          rw [HM.out]
          go_wp2_with fail
          refine (refmost_any _ _ _ p _ _ _ _ (HR.out.drewN q) HNS.out).mono ?_
          rintro e w1 ⟨rfl, rfl⟩
          rw [HL.out]
          go_wp2
          go_ret2
          exact snew_self HO.out HR.out HNIL.out HNC.out (bel_drew _ _)
        · have ht : giveR p a b k = if 1024 < (changeL p a b (k)).length then (p, 4) else (changeL p a b (k), 0) := by unfold giveR; rw [hq, if_neg (by simp), if_neg h3]
          rw [← hc] at ht
          obtain ⟨r, hr0⟩ : ∃ r, giveR p a b k = r := ⟨_, rfl⟩
          rw [hr0] at ht ⊢
          have HT := Lib.hid ht
          rw [← hl] at h3 hrange
          clear ht hq hl hc hr0
          obtain ⟨m, hm⟩ : ∃ m, mostR p a b = m := ⟨_, rfl⟩
          rw [hm] at h3 hrange
          unfold MAXF at h3
          have HL := Lib.hid hm
          clear hm
          go_enter Try.func32, Try.ntmps32
          go_wp2_with fail
          refine (refMay_any _ _ _ p _ _ _ _ HR.out HN.out).mono ?_
          rintro e w1 ⟨rfl, q, rfl⟩
          rw [HM.out]
          go_wp2_with fail
          refine (refmost_any _ _ _ p _ _ _ _ (HR.out.drewN q) HNS.out).mono ?_
          rintro e w1 ⟨rfl, rfl⟩
          rw [HL.out]
          go_wp2_with fail
          refine (change_any _ _ _ p _ _ (k) _ ((HR.out.drewN q)) HNS.out HN0.out HBD.out (by omega) (by omega)).mono ?_
          rintro e w1 (⟨hL, v, rfl, hown⟩ | ⟨hL, rfl, hb⟩)
          · have hsp : Hid (SNew ok (changeR p a b (k)) 0 w (.returned (.tuple #[v, .int .i64 0])) w1) := Lib.hid (snew_own hown.undrew)
            have hr1 : r = (changeR p a b (k), 0) := by rw [HT.out, if_neg (by omega)]
            subst hr1
            clear hown
            go_wp2
            go_ret2
            exact hsp.out
          · have hr1 : r = (p, 4) := by rw [HT.out, if_pos hL]
            subst hr1
            have hbb : Hid (Below w.heap.size w w1) := Lib.hid ((bel_drew w q).trans hb)
            clear hb
            go_wp2
            go_ret2
            exact snew_self HO.out HR.out HNIL.out HNC.out hbb.out

theorem refTake_any (A : Option Addr) (n c : Nat) (p : List (Int × Int)) (a b k : Int) (w : World) (hr : RS w w.heap.size A n p) (hnil : A = none → c = 0) (hnc : n ≤ c) (hn : n ≤ maxLen) (hk1 : -9223372036854775808 ≤ k) (hk2 : k ≤ 9223372036854775807) :
    Calls Try.prog 31 #[.slice A n c, .int .i64 a, .int .i64 b, .int .i64 k] w (SPost (takeR p a b k).1 (takeR p a b k).2 w) :=
  (refTake_new _ A n c p a b k w hr.so hr hnil hnc hn hk1 hk2).mono fun _ _ h => h.post
theorem refGive_any (A : Option Addr) (n c : Nat) (p : List (Int × Int)) (a b k : Int) (w : World) (hr : RS w w.heap.size A n p) (hnil : A = none → c = 0) (hnc : n ≤ c) (hn : n ≤ maxLen) (hk1 : -9223372036854775808 ≤ k) (hk2 : k ≤ 9223372036854775807) :
    Calls Try.prog 32 #[.slice A n c, .int .i64 a, .int .i64 b, .int .i64 k] w (SPost (giveR p a b k).1 (giveR p a b k).2 w) :=
  (refGive_new _ A n c p a b k w hr.so hr hnil hnc hn hk1 hk2).mono fun _ _ h => h.post

end Go.Proofs.Ytkhnlbkghjjdnaa
