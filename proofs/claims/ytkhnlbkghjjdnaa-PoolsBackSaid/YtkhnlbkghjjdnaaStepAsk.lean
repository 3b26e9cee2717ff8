/- A profile that is right, in plain words; the reference's May, At and Same (bailiwickref03). -/
import Derived.Test.YtkhnlbkghjjdnaaStepReads
import Derived.Laws.StructEq
namespace Go.Proofs.Ytkhnlbkghjjdnaa
open Go.RowKit

theorem tail_of_steps : ∀ (r : List (Int × Int)) (a f : Int), (∀ i, i < ((a, f) :: r).length → stepOk ((a, f) :: r) i) → Tail a f r ∧ Bounded ((a, f) :: r)
  | [], a, f, h => ⟨trivial, fun s hs => by
      rw [List.mem_singleton.1 hs]
      have := h 0 (by simp)
      exact ⟨this.1, this.2.1⟩⟩
  | (b, g) :: r, a, f, h => by
    have h0 := h 0 (by simp)
    have h1 := h 1 (by simp)
    obtain ⟨ih1, ih2⟩ := tail_of_steps r b g (fun i hi => by
      have hs := h (i + 1) (by simpa using hi)
      refine ⟨hs.1, hs.2.1, hs.2.2.1, hs.2.2.2.1, fun hi0 => ?_⟩
      have := hs.2.2.2.2 (by omega)
      obtain ⟨j, rfl⟩ : ∃ j, i = j + 1 := ⟨i - 1, by omega⟩
      exact this)
    have h2 := h1.2.2.2.2 (by omega)
    refine ⟨⟨h2.1, h1.2.2.2.1, h2.2, ih1⟩, fun s hs => ?_⟩
    rcases List.mem_cons.1 hs with rfl | hs
    · exact ⟨h0.1, h0.2.1⟩
    · exact ih2 s hs
theorem steps_of_tail : ∀ (r : List (Int × Int)) (a f : Int), 0 ≤ a → a ≤ NEVER → Tail a f r → Bounded ((a, f) :: r) → ∀ i, i < ((a, f) :: r).length → stepOk ((a, f) :: r) i
  | [], a, f, h1, h2, _, hb, i, hi => by
    have : i = 0 := by simp at hi; omega
    subst this
    have := hb (a, f) List.mem_cons_self
    exact ⟨this.1, this.2, h1, h2, fun h => absurd h (by omega)⟩
  | (b, g) :: r, a, f, h1, h2, ht, hb, i, hi => by
    have h0 := hb (a, f) List.mem_cons_self
    match i with
    | 0 => exact ⟨h0.1, h0.2, h1, h2, fun h => absurd h (by omega)⟩
    | i + 1 =>
      have hs := steps_of_tail r b g (by have := ht.1; omega) ht.2.1 ht.2.2.2 (fun s hs => hb s (List.mem_cons_of_mem _ hs)) i (by simpa using hi)
      refine ⟨hs.1, hs.2.1, hs.2.2.1, hs.2.2.2.1, fun _ => ?_⟩
      match i with
      | 0 => exact ⟨ht.1, ht.2.2.1⟩
      | i + 1 => exact hs.2.2.2.2 (by omega)
theorem rightP_iff (p : List (Int × Int)) : rightP p = true ↔ Canon p ∧ Bounded p ∧ p.length ≤ 1024 := by
  unfold rightP
  rw [decide_eq_true_eq]
  constructor
  · rintro ⟨h1, h2, h3, h4⟩
    match p, h1 with
    | (a, f) :: r, _ =>
      have ha : a = 0 := h3
      subst ha
      obtain ⟨g1, g2⟩ := tail_of_steps r 0 f h4
      exact ⟨⟨rfl, g1⟩, g2, h2⟩
  · rintro ⟨h1, h2, h3⟩
    obtain ⟨f, r, rfl, ht⟩ := canon_form h1
    exact ⟨by simp, h3, rfl, steps_of_tail r 0 f (Int.le_refl _) (by unfold NEVER; omega) ht h2⟩

/-- may a profile be asked about a span -/
def mayP (p : List (Int × Int)) (a b : Int) : Bool := rightP p && decide (0 ≤ a ∧ a < b ∧ b ≤ NEVER)
theorem mayP_iff (p : List (Int × Int)) (a b : Int) : mayP p a b = true ↔ (Canon p ∧ Bounded p ∧ p.length ≤ 1024) ∧ 0 ≤ a ∧ a < b ∧ b ≤ NEVER := by
  unfold mayP
  rw [Bool.and_eq_true, rightP_iff, decide_eq_true_eq]
def atR (p : List (Int × Int)) (t : Int) : Int := if rightP p = true ∧ 0 ≤ t ∧ t ≤ NEVER then atP p t else 0

theorem refMay_any (A : Option Addr) (n c : Nat) (p : List (Int × Int)) (a b : Int) (w : World) (B : Nat) (hr : RS w B A n p) (hn : n ≤ maxLen) :
    Calls Try.prog 51 #[.slice A n c, .int .i64 a, .int .i64 b] w fun e w' => e = .returned (.bool (mayP p a b)) ∧ ∃ k, w' = w.drewN k := by
  have HR := Lib.hid hr
  have HN := Lib.hid hn
  clear hr hn
  cases hp : rightP p with
  | false =>
    have hm : Hid (mayP p a b = false) := Lib.hid (by unfold mayP; rw [hp]; rfl)
    have hp' := Lib.hid hp
    clear hp
    go_enter Try.func51, Try.ntmps51
    go_wp2_with fail
    refine (refRightS_any _ _ _ p _ _ HR.out HN.out).mono ?_
    rintro e w1 ⟨rfl, q, rfl⟩
    rw [hp'.out]
    go_wp2
    go_ret
    exact ⟨ret_bool hm.out, q, rfl⟩
  | true =>
    have hm : Hid (mayP p a b = decide (0 ≤ a ∧ a < b ∧ b ≤ NEVER)) := Lib.hid (by unfold mayP; rw [hp]; rfl)
    have hp' := Lib.hid hp
    clear hp
    go_enter Try.func51, Try.ntmps51
    go_wp2_with fail
    refine (refRightS_any _ _ _ p _ _ HR.out HN.out).mono ?_
    rintro e w1 ⟨rfl, q, rfl⟩
    rw [hp'.out]
    by_cases h1 : 0 ≤ a
    · by_cases h2 : a < b
      · by_cases h3 : b ≤ 4611686018427387904
        · go_wp2
          go_ret
          exact ⟨ret_bool (hm.out.trans (by first | (rw [Bool.eq_iff_iff, decide_eq_true_eq, decide_eq_true_eq]; unfold NEVER; omega) | exact decide_eq_true ⟨by omega, by omega, by show b ≤ 4611686018427387904; omega⟩ | exact decide_eq_false (fun (h : 0 ≤ a ∧ a < b ∧ b ≤ NEVER) => by have h3 : b ≤ 4611686018427387904 := h.2.2; omega))), q, rfl⟩
        · go_wp2
          go_ret
          exact ⟨ret_bool (hm.out.trans (by first | (rw [Bool.eq_iff_iff, decide_eq_true_eq, decide_eq_true_eq]; unfold NEVER; omega) | exact decide_eq_true ⟨by omega, by omega, by show b ≤ 4611686018427387904; omega⟩ | exact decide_eq_false (fun (h : 0 ≤ a ∧ a < b ∧ b ≤ NEVER) => by have h3 : b ≤ 4611686018427387904 := h.2.2; omega))), q, rfl⟩
      · go_wp2
        go_ret
        exact ⟨ret_bool (hm.out.trans (by first | (rw [Bool.eq_iff_iff, decide_eq_true_eq, decide_eq_true_eq]; unfold NEVER; omega) | exact decide_eq_true ⟨by omega, by omega, by show b ≤ 4611686018427387904; omega⟩ | exact decide_eq_false (fun (h : 0 ≤ a ∧ a < b ∧ b ≤ NEVER) => by have h3 : b ≤ 4611686018427387904 := h.2.2; omega))), q, rfl⟩
    · go_wp2
      go_ret
      exact ⟨ret_bool (hm.out.trans (by first | (rw [Bool.eq_iff_iff, decide_eq_true_eq, decide_eq_true_eq]; unfold NEVER; omega) | exact decide_eq_true ⟨by omega, by omega, by show b ≤ 4611686018427387904; omega⟩ | exact decide_eq_false (fun (h : 0 ≤ a ∧ a < b ∧ b ≤ NEVER) => by have h3 : b ≤ 4611686018427387904 := h.2.2; omega))), q, rfl⟩

theorem refAtS_any (A : Option Addr) (n c : Nat) (p : List (Int × Int)) (t : Int) (w : World) (B : Nat) (hr : RS w B A n p) (hn : n ≤ maxLen) :
    Calls Try.prog 17 #[.slice A n c, .int .i64 t] w fun e w' => e = .returned (.int .i64 (atR p t)) ∧ ∃ k, w' = w.drewN k := by
  have HR := Lib.hid hr
  have HN := Lib.hid hn
  clear hr hn
  cases hp : rightP p with
  | false =>
    have hm : Hid (atR p t = 0) := Lib.hid (by unfold atR; rw [hp]; simp)
    have hp' := Lib.hid hp
    clear hp
    go_enter Try.func17, Try.ntmps17
    go_wp2_with fail
    refine (refRightS_any _ _ _ p _ _ HR.out HN.out).mono ?_
    rintro e w1 ⟨rfl, q, rfl⟩
    rw [hp'.out]
    go_wp2
    go_ret
    exact ⟨ret_int hm.out.symm, q, rfl⟩
  | true =>
    have hp' := Lib.hid hp
    have hl : Hid (n ≤ 2000) := Lib.hid (by have := ((rightP_iff p).1 hp).2.2; rw [HR.out.1] at this; omega)
    clear hp
    go_enter Try.func17, Try.ntmps17
    go_wp2_with fail
    refine (refRightS_any _ _ _ p _ _ HR.out HN.out).mono ?_
    rintro e w1 ⟨rfl, q, rfl⟩
    rw [hp'.out]
    by_cases h1 : t < 0
    · have hm : Hid (atR p t = 0) := Lib.hid (by unfold atR; rw [if_neg (by omega)])
      go_wp2
      go_ret
      exact ⟨ret_int hm.out.symm, q, rfl⟩
    · by_cases h2 : 4611686018427387904 < t
      · have hm : Hid (atR p t = 0) := Lib.hid (by unfold atR NEVER; rw [if_neg (by omega)])
        go_wp2
        go_ret
        exact ⟨ret_int hm.out.symm, q, rfl⟩
      · have hm : Hid (atR p t = foldAt p t 0) := Lib.hid (by unfold atR NEVER; rw [if_pos ⟨hp'.out, by omega, by omega⟩, foldAt_canon ((rightP_iff p).1 hp'.out).1 (by omega)])
        go_wp2_with fail
        refine (refat_any _ _ _ p _ _ _ (HR.out.drewN q) hl.out).mono ?_
        rintro e w1 ⟨rfl, rfl⟩
        go_wp2
        go_ret
        exact ⟨ret_int hm.out.symm, q, rfl⟩

theorem list_ext_getD {a b : List (Int × Int)} (hl : a.length = b.length) (h : ∀ i, i < a.length → a.getD i (0, 0) = b.getD i (0, 0)) : a = b := by
  apply List.ext_getElem hl
  intro i h1 h2
  have := h i h1
  simpa [List.getD, h1, h2] using this
def sameP (p q : List (Int × Int)) : Bool := decide (p = q)
set_option maxRecDepth 100000 in
theorem refSameS_any (A A' : Option Addr) (n c n' c' : Nat) (p q : List (Int × Int)) (w : World) (B B' : Nat) (hr : RS w B A n p) (hr' : RS w B' A' n' q) (hn : n ≤ maxLen) (hn' : n' ≤ maxLen) :
    Calls Try.prog 28 #[.slice A n c, .slice A' n' c'] w fun e w' => e = .returned (.bool (sameP p q)) ∧ ∃ k, w' = w.drewN k := by
  unfold maxLen at hn hn'
  have HR := Lib.hid hr
  have HR' := Lib.hid hr'
  clear hr hr'
  by_cases hnn : n = n'
  · subst hnn
    go_enter Try.func28, Try.ntmps28
    go_wp2
    go_loopw [5] (fun i wr => ∃ k : Nat, k ≤ n ∧ i = .int .i64 k ∧ (∀ i, i < k → p.getD i (0, 0) = q.getD i (0, 0)) ∧ ∃ m, wr = w.drewN m) (fun i _ => n - (intOf i).toNat)
    case atStart => exact ⟨0, Nat.zero_le _, rfl, fun i hi => absurd hi (by omega), 0, rfl⟩
    case round =>
      obtain ⟨k, hk, rfl, hpre, m, rfl⟩ := hrel
      have HP := Lib.hid hpre
      clear hpre
      by_cases hlt : k < n
      · obtain ⟨b, off, rfl, _, hc1, hc2⟩ := HR.out.cells hlt
        obtain ⟨b', off', rfl, _, hc1', hc2'⟩ := HR'.out.cells hlt
        have hne : Hid (p.getD k (0, 0) ≠ q.getD k (0, 0) → sameP p q = false) := Lib.hid (fun h => by unfold sameP; rw [decide_eq_false_iff_not]; rintro rfl; exact h rfl)
        have heq : Hid (p.getD k (0, 0) = q.getD k (0, 0) ↔ (p.getD k (0, 0)).1 = (q.getD k (0, 0)).1 ∧ (p.getD k (0, 0)).2 = (q.getD k (0, 0)).2) := Lib.hid Prod.ext_iff
        generalize (p.getD k (0, 0)).1 = x at *
        generalize (p.getD k (0, 0)).2 = y at *
        generalize (q.getD k (0, 0)).1 = x' at *
        generalize (q.getD k (0, 0)).2 = y' at *
        by_cases h1 : x = x'
        · by_cases h2 : y = y'
          · have e1 : Hid (∀ i, i < k + 1 → p.getD i (0, 0) = q.getD i (0, 0)) := Lib.hid (by
              intro i hi
              rcases Nat.lt_or_ge i k with h' | h'
              · exact HP.out i h'
              · obtain rfl : i = k := by omega
                exact heq.out.2 ⟨h1, h2⟩)
            clear hne heq
            go_wp2
            go_quiet (fail)
            go_wp2
            go_roundw
            case rel => exact ⟨k + 1, by omega, by go_num, e1.out, _, rfl⟩
            case measure => simp [intOf]; omega
          · have e1 := Lib.hid (hne.out (fun h => h2 (heq.out.1 h).2))
            clear hne heq
            go_wp2
            go_quiet (fail)
            go_wp2
            go_ret
            exact ⟨ret_bool e1.out, _, World.drewN_drewN _ _ _⟩
        · have e1 := Lib.hid (hne.out (fun h => h1 (heq.out.1 h).1))
          clear hne heq
          go_wp2
          go_quiet (fail)
          go_wp2
          go_ret
          exact ⟨ret_bool e1.out, _, World.drewN_drewN _ _ _⟩
      · have e1 : Hid (sameP p q = true) := Lib.hid (by
          unfold sameP
          rw [decide_eq_true_eq]
          exact list_ext_getD (by rw [HR.out.1, HR'.out.1]) fun i hi => HP.out i (by have := HR.out.1; omega))
        go_wp2
        go_ret
        exact ⟨ret_bool e1.out, _, rfl⟩
  · have hf : Hid (sameP p q = false) := Lib.hid (by unfold sameP; rw [decide_eq_false_iff_not]; rintro rfl; exact hnn (by rw [← HR.out.1, HR'.out.1]))
    rw [hf.out]
    have hd : (n == n') = false := by simpa using hnn
    go_enter Try.func28, Try.ntmps28
    go_wp2
    go_ret
    exact ⟨rfl, 0, rfl⟩

end Go.Proofs.Ytkhnlbkghjjdnaa
