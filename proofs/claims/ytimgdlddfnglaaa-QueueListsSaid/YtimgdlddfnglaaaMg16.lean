/- Plain facts for the program's side of layer 12: a list whose numbers rise, and its beginnings. Go's cmp.Compare of numbers. The program's find: slices.BinarySearchFunc over a queue, by a walk over its text; state. Written by gen/gen_queuep.py. -/
import Derived.Test.YtimgdlddfnglaaaMg06
import Derived.LoopTactic
import Derived.Test.YtimgdlddfnglaaaMg01
import Derived.RegionTactic
import Derived.Deep.LoopGhost
import Derived.Deep.QuietTactic
import Derived.Shelf.Abstract
import Derived.Test.YtimgdlddfnglaaaMg07
namespace Go.Proofs.Ytimgdlddfnglaaa

/-- the numbers rise -/
def RiseL (l : Qu) : Prop := ∀ i k, i < k → k < l.length → (jAt l i).id < (jAt l k).id
/-- where a number stands, or would stand -/
structure StandsQ (l : Qu) (id : Int) (K : Nat) : Prop where
  le : K ≤ l.length
  low : ∀ q, q < K → (jAt l q).id < id
  high : ∀ q, K ≤ q → q < l.length → id ≤ (jAt l q).id
def hereQ (l : Qu) (id : Int) (K : Nat) : Bool := decide (K < l.length) && decide ((jAt l K).id = id)
/-- what is asked of one job beside those ahead of it -/
def StepQA (l : Qu) (i : Nat) : Prop := RightJ (jAt l i) ∧ RiseAt l i ∧ AllHas (l.take i) (jAt l i).needs
/-- may these be needed by a job -/
def mayB (ns : List Int) : Bool := decide (ns.length ≤ 16 ∧ RiseN ns)
/-- one of these can't be done any more -/
def failsB (l : Qu) (lost ns : List Int) : Bool := decide (∃ k, k < ns.length ∧ (3 < (jOf l (ns.getD k 0)).state ∨ ns.getD k 0 ∈ lost))
section
variable {l : Qu} {id : Int} {i k K : Nat} {ns : List Int}
theorem RightQ.riseL (h : RightQ l) : RiseL l := fun _ _ h1 h2 => h.rise h1 h2
theorem jAt_take (h : i < k) : jAt (l.take k) i = jAt l i := by
  unfold jAt
  rw [List.getD, List.getD, List.getElem?_take_of_lt h]
theorem RiseL.take (h : RiseL l) (k : Nat) : RiseL (l.take k) := fun i q h1 h2 => by
  rw [List.length_take] at h2
  rw [jAt_take (by omega), jAt_take (by omega)]
  exact h i q h1 (by omega)
theorem rise_upto (hk : k ≤ l.length) (h : ∀ q, q < k → RiseAt l q) : RiseL (l.take k) := by
  have key : ∀ q, q < k → ∀ i, i < q → (jAt l i).id < (jAt l q).id := by
    intro q
    induction q with
    | zero => intro _ i hi; omega
    | succ q ih =>
      intro hq i hi
      have h1 := (h (q + 1) hq (by omega)).1
      rw [Nat.add_sub_cancel] at h1
      rcases Nat.lt_or_ge i q with h2 | h2
      · have := ih (by omega) i h2; omega
      · have : i = q := by omega
        subst this; exact h1
  intro i q h1 h2
  rw [List.length_take] at h2
  rw [jAt_take (by omega), jAt_take (by omega)]
  exact key q (by omega) i h1
theorem hasTake_iff (hk : k ≤ l.length) {x : Int} : HasQ (l.take k) x ↔ ∃ q, q < k ∧ (jAt l q).id = x := by
  have hlen : (l.take k).length = k := by rw [List.length_take]; omega
  constructor
  · intro h
    have h1 := atN_id h
    unfold jOf at h1
    have h2 : atN (l.take k) x < k := by have h3 : atN (l.take k) x < (l.take k).length := h; omega
    exact ⟨_, h2, by rw [← jAt_take h2]; exact h1⟩
  · rintro ⟨q, hq, e⟩
    have h1 := has_at (l := l.take k) (i := q) (by omega)
    rw [jAt_take hq, e] at h1
    exact h1
theorem rightQ_steps : RightQ l ↔ l.length ≤ 64 ∧ ∀ i, i < l.length → StepQA l i := by
  constructor
  · intro h
    refine ⟨h.1, fun i hi => ⟨h.job hi, (h.2 i hi).2.1, fun k hk => ?_⟩⟩
    have h1 := h.ahead hi hk
    exact (hasTake_iff (Nat.le_of_lt hi)).2 ⟨_, h1, atN_id (h.needs hi k hk)⟩
  · rintro ⟨h1, h2⟩
    refine ⟨h1, fun i hi => ⟨(h2 i hi).1, (h2 i hi).2.1, fun k hk => ?_⟩⟩
    obtain ⟨q, hq, e⟩ := (hasTake_iff (Nat.le_of_lt hi)).1 ((h2 i hi).2.2 k hk)
    rw [← e]
    exact has_at (by omega)
theorem stands_has (hr : RiseL l) (h : StandsQ l id K) : hereQ l id K = decide (HasQ l id) ∧ (HasQ l id → K = atN l id) := by
  have hat : HasQ l id → K = atN l id := fun hh => by
    have h1 := atN_id hh
    unfold jOf at h1
    have h2 : atN l id < l.length := hh
    rcases Nat.lt_trichotomy K (atN l id) with h3 | h3 | h3
    · have h4 := hr _ _ h3 h2
      have h5 := h.high K (Nat.le_refl _) (by omega)
      omega
    · exact h3
    · have h4 := h.low _ h3
      omega
  refine ⟨?_, hat⟩
  unfold hereQ
  by_cases hh : HasQ l id
  · have e := hat hh
    have h1 := atN_id hh
    unfold jOf at h1
    rw [decide_eq_true hh, e, decide_eq_true (show atN l id < l.length from hh), decide_eq_true h1]; rfl
  · rw [decide_eq_false hh]
    by_cases h1 : K < l.length
    · rw [decide_eq_true h1, decide_eq_false fun e => hh (by rw [← e]; exact has_at h1)]; rfl
    · rw [decide_eq_false h1]; rfl
/-- who is lost, told by those ahead that are -/
theorem lost_step (hr : RightQ l) (hi : i < l.length) (hs : (jAt l i).state ≤ 1) : failsB l (((l.take i).filter (lostB l)).map Jb.id) (jAt l i).needs = lostB l (jAt l i) := by
  have key : ∀ k, k < (jAt l i).needs.length → ((jAt l i).needs.getD k 0 ∈ ((l.take i).filter (lostB l)).map Jb.id ↔ Lost l (jOf l ((jAt l i).needs.getD k 0))) := by
    intro k hk
    obtain ⟨x, hx⟩ : ∃ x, (jAt l i).needs.getD k 0 = x := ⟨_, rfl⟩
    have h1 := hr.ahead hi hk
    have h2 := hr.needs hi k hk
    rw [hx] at h1 h2 ⊢
    have h3 := atN_id h2
    have hmem : jOf l x ∈ l.take i := by
      have := jAt_mem (l := l.take i) (i := atN l x) (by rw [List.length_take]; omega)
      rw [jAt_take h1] at this
      exact this
    constructor
    · intro h
      obtain ⟨y, hy, e⟩ := List.mem_map.1 h
      obtain ⟨hy1, hy2⟩ := List.mem_filter.1 hy
      obtain ⟨q, hq, e2⟩ := mem_jAt (List.mem_of_mem_take hy1)
      have : y = jOf l x := by
        have h4 := hr.of_id hq
        rw [e2, e] at h4
        exact h4.symm
      rw [← this]; exact lostB_iff.1 hy2
    · intro h
      exact List.mem_map.2 ⟨jOf l x, List.mem_filter.2 ⟨hmem, lostB_iff.2 h⟩, h3⟩
  have : (∃ k, k < (jAt l i).needs.length ∧ (3 < (jOf l ((jAt l i).needs.getD k 0)).state ∨ (jAt l i).needs.getD k 0 ∈ ((l.take i).filter (lostB l)).map Jb.id)) ↔ Lost l (jAt l i) := by
    rw [lost_iff]
    constructor
    · rintro ⟨k, hk, h | h⟩
      · exact ⟨hs, k, hk, .inl h⟩
      · exact ⟨hs, k, hk, .inr ((key k hk).1 h)⟩
    · rintro ⟨_, k, hk, h | h⟩
      · exact ⟨k, hk, .inl h⟩
      · exact ⟨k, hk, .inr ((key k hk).2 h)⟩
  unfold failsB
  by_cases h : Lost l (jAt l i)
  · rw [decide_eq_true (this.2 h), lostB_iff.2 h]
  · rw [decide_eq_false (fun x => h (this.1 x)), lostB_no.2 h]
end

end Go.Proofs.Ytimgdlddfnglaaa

namespace Go.Proofs.Ytimgdlddfnglaaa
open Go.RowKit

/-- one before the other: -1, 0, 1 -/
def cmp3 (a b : Int) : Int := if a < b then -1 else if b < a then 1 else 0
theorem cmp3_lt (a b : Int) : decide (cmp3 a b < 0) = decide (a < b) := by
  unfold cmp3
  by_cases h1 : a < b
  · simp [h1]
  · by_cases h2 : b < a <;> simp [h1, h2]
theorem cmp3_eq {a b : Int} : cmp3 a b = 0 ↔ a = b := by
  unfold cmp3
  by_cases h1 : a < b
  · simp [h1]; omega
  · by_cases h2 : b < a <;> simp [h1, h2] <;> omega
theorem cmp3_any (a b : Int) (w : World) : Calls Try.prog 28 #[.int .i64 a, .int .i64 b] w fun e w' => e = .returned (.int .i64 (cmp3 a b)) ∧ w' = w := by
  by_cases h1 : a < b
  · have e : Hid (cmp3 a b = -1) := Lib.hid (by unfold cmp3; rw [if_pos h1])
    go_enter Try.func28, Try.ntmps28
    go_wp2
    go_ret
    exact ⟨by rw [e.out]; rfl, rfl⟩
  · by_cases h2 : b < a
    · have e : Hid (cmp3 a b = 1) := Lib.hid (by unfold cmp3; rw [if_neg h1, if_pos h2])
      go_enter Try.func28, Try.ntmps28
      go_wp2
      go_ret
      exact ⟨by rw [e.out]; rfl, rfl⟩
    · have e : Hid (cmp3 a b = 0) := Lib.hid (by unfold cmp3; rw [if_neg h1, if_neg h2])
      go_enter Try.func28, Try.ntmps28
      go_wp2
      go_ret
      exact ⟨by rw [e.out]; rfl, rfl⟩

end Go.Proofs.Ytimgdlddfnglaaa

namespace Go.Proofs.Ytimgdlddfnglaaa
open Go.RowKit

set_option maxHeartbeats 1000000 in
theorem find1_q (x : Jb) (A : Option Addr) (m c : Nat) (id : Int) (W : World) : Calls Try.prog 53 #[.agg #[.int .i64 x.id, .int .i64 x.spec.nodes, .int .i64 x.spec.cores, .int .i64 x.spec.gpus, .string x.spec.tag, .bool x.spec.whole, .int .i64 x.spec.long, .int .i64 x.spec.prio, .slice A m c, .int .i64 x.state, .int .i64 x.came, .int .i64 x.frm, .int .i64 x.to], .int .i64 id] W fun e w' => e = .returned (.int .i64 (cmp3 x.id id)) ∧ Below W.heap.size W w' := by
  have hcon := fun W' => cmp3_any x.id id W'
  obtain ⟨r, hr⟩ : ∃ r, cmp3 x.id id = r := ⟨_, rfl⟩
  rw [hr] at hcon ⊢
  go_enter Try.func53, Try.ntmps53
  go_wp2_with (go_at_call 28; refine (hcon _).mono ?_; rintro e w' ⟨rfl, rfl⟩)
  go_ret
  exact ⟨rfl, (Below.refl _ _).alloc (Nat.le_refl _) _⟩

set_option maxHeartbeats 8000000 in
set_option maxRecDepth 100000 in
theorem binary_q (A : Option Addr) (n c : Nat) (l : Qu) (id : Int) (w : World) (hr : RQ w w.heap.size A n l) (hn : n ≤ 1000) (hi : RiseL l) :
    Calls Try.prog 52 #[.slice A n c, .int .i64 id, .func (.func 53) #[] #[]] w fun e w' => (∃ K : Nat, e = .returned (.tuple #[.int .i64 K, .bool (hereQ l id K)]) ∧ StandsQ l id K) ∧ Below w.heap.size w w' := by
  have HR := Lib.hid hr
  have HL := Lib.hid hr.len
  have HI : Hid (∀ q r, q < r → r < n → (jAt l q).id < (jAt l r).id) := Lib.hid (fun q r h1 h2 => hi q r h1 (by rw [hr.len]; exact h2))
  have eg : ∀ args w, (callFunc 53 args).run Try.prog w = .ok (.enter 53 args) w := Go.Proofs.enters_of Try.func53 (by kernel_rfl) rfl
  clear hr hi
  go_enter Try.func52, Try.ntmps52
  go_wp2
  go_loopg [9, 10] n (fun kx s5 s6 wr => ∃ (lo hi : Nat), s5 = .int .i64 lo ∧ s6 = .int .i64 hi ∧ lo ≤ hi ∧ hi ≤ n ∧ (∀ q, q < lo → (jAt l q).id < id) ∧ (∀ q, hi ≤ q → q < n → id ≤ (jAt l q).id) ∧ hi - lo ≤ kx ∧ Below w.heap.size w wr)
  case atStart => exact ⟨0, n, rfl, rfl, Nat.zero_le _, Nat.le_refl _, fun q h => absurd h (by omega), fun q h1 h2 => absurd h1 (by omega), by omega, Below.refl _ _⟩
  case round =>
    obtain ⟨lo, hi, rfl, rfl, hlh, hin, hlow, hhigh, hg, hbel⟩ := hrel
    have HLOW := Lib.hid hlow
    have HHIGH := Lib.hid hhigh
    have HB := Lib.hid hbel
    have HRw := Lib.hid (HR.out.next hbel)
    clear hlow hhigh hbel
    by_cases hlt : lo < hi
    · obtain ⟨h, hh⟩ : ∃ h : Nat, (lo + hi) / 2 = h := ⟨_, rfl⟩
      have hh1 : lo ≤ h ∧ h < hi := by omega
      have e1' : ((lo : Int) + (hi : Int)) / 2 = (h : Int) := by omega
      have hhn : h < n := by omega
      have hhz : (h : Int) < (n : Int) := by omega
      obtain ⟨b, off, A2, m2, c2, rfl, hbl, ⟨e0, e1, e2, e3, e4, e5, e6, e7, e8, e9, e10, e11, e12⟩, hx⟩ := HRw.out.one hhn
      obtain ⟨x, hxx⟩ : ∃ x, jAt l h = x := ⟨_, rfl⟩
      rw [hxx] at hx e0 e1 e2 e3 e4 e5 e6 e7 e9 e10 e11 e12
      have hcx := cmp3_lt x.id id
      have HC := Lib.hid (fun W => find1_q x A2 m2 c2 id W)
      obtain ⟨r, hrr⟩ : ∃ r, cmp3 x.id id = r := ⟨_, rfl⟩
      rw [hrr] at hcx
      have HC' : Hid (∀ W, Calls Try.prog 53 #[.agg #[.int .i64 x.id, .int .i64 x.spec.nodes, .int .i64 x.spec.cores, .int .i64 x.spec.gpus, .string x.spec.tag, .bool x.spec.whole, .int .i64 x.spec.long, .int .i64 x.spec.prio, .slice A2 m2 c2, .int .i64 x.state, .int .i64 x.came, .int .i64 x.frm, .int .i64 x.to], .int .i64 id] W fun e w' => e = .returned (.int .i64 r) ∧ Below W.heap.size W w') := Lib.hid (fun W => by have := HC.out W; rwa [hrr] at this)
      have HXX := Lib.hid hxx
      clear hx hbl hrr HC hxx hh
      by_cases hlo : x.id < id
      · rw [decide_eq_true hlo] at hcx
        have HN : Hid (∀ q, q < h + 1 → (jAt l q).id < id) := Lib.hid (fun q hq => by
          by_cases e : q = h
          · subst e; rw [HXX.out]; exact hlo
          · have := HI.out q h (by omega) hhn
            rw [HXX.out] at this
            omega)
        clear hlo
        go_wp2_with fail
        refine (HC'.out _).mono ?_
        rintro e w5 ⟨rfl, hb⟩
        have HB5 := Lib.hid (HB.out.trans (hb.mono HB.out.size))
        clear hb e0 e1 e2 e3 e4 e5 e6 e7 e8 e9 e10 e11 e12
        go_wp2
        go_roundg (hi - (h + 1))
        case measure => omega
        case rel => exact ⟨h + 1, hi, by go_num, rfl, by omega, hin, HN.out, HHIGH.out, Nat.le_refl _, HB5.out⟩
      · rw [decide_eq_false hlo] at hcx
        have HN : Hid (∀ q, h ≤ q → q < n → id ≤ (jAt l q).id) := Lib.hid (fun q hq hqn => by
          by_cases e : q = h
          · subst e; rw [HXX.out]; omega
          · have := HI.out h q (by omega) hqn
            rw [HXX.out] at this
            omega)
        clear hlo
        go_wp2_with fail
        refine (HC'.out _).mono ?_
        rintro e w5 ⟨rfl, hb⟩
        have HB5 := Lib.hid (HB.out.trans (hb.mono HB.out.size))
        clear hb e0 e1 e2 e3 e4 e5 e6 e7 e8 e9 e10 e11 e12
        go_wp2
        go_roundg (h - lo)
        case measure => omega
        case rel => exact ⟨lo, h, rfl, rfl, by omega, by omega, HLOW.out, HN.out, Nat.le_refl _, HB5.out⟩
    · obtain rfl : hi = lo := by omega
      have HST : Hid (StandsQ l id hi) := Lib.hid ⟨by rw [HL.out]; exact hin, HLOW.out, fun q h1 h2 => HHIGH.out q h1 (by rw [← HL.out]; exact h2)⟩
      by_cases hn2 : hi < n
      · have d1 : decide (hi < n) = true := decide_eq_true hn2
        obtain ⟨b, off, A2, m2, c2, rfl, hbl, ⟨e0, e1, e2, e3, e4, e5, e6, e7, e8, e9, e10, e11, e12⟩, hx⟩ := HRw.out.one hn2
        obtain ⟨x, hxx⟩ : ∃ x, jAt l hi = x := ⟨_, rfl⟩
        rw [hxx] at hx e0 e1 e2 e3 e4 e5 e6 e7 e9 e10 e11 e12
        have hcx : (cmp3 x.id id == 0) = decide (x.id = id) := by
          by_cases e : x.id = id
          · rw [decide_eq_true e, cmp3_eq.2 e]; rfl
          · rw [decide_eq_false e]; exact beq_eq_false_iff_ne.2 (fun h => e (cmp3_eq.1 h))
        have HH : Hid (hereQ l id hi = decide (x.id = id)) := Lib.hid (by unfold hereQ; rw [HL.out, d1, hxx, Bool.true_and])
        have HC := Lib.hid (fun W => find1_q x A2 m2 c2 id W)
        obtain ⟨r, hrr⟩ : ∃ r, cmp3 x.id id = r := ⟨_, rfl⟩
        rw [hrr] at hcx
        have HC' : Hid (∀ W, Calls Try.prog 53 #[.agg #[.int .i64 x.id, .int .i64 x.spec.nodes, .int .i64 x.spec.cores, .int .i64 x.spec.gpus, .string x.spec.tag, .bool x.spec.whole, .int .i64 x.spec.long, .int .i64 x.spec.prio, .slice A2 m2 c2, .int .i64 x.state, .int .i64 x.came, .int .i64 x.frm, .int .i64 x.to], .int .i64 id] W fun e w' => e = .returned (.int .i64 r) ∧ Below W.heap.size W w') := Lib.hid (fun W => by have := HC.out W; rwa [hrr] at this)
        obtain ⟨v, hv⟩ : ∃ v, decide (x.id = id) = v := ⟨_, rfl⟩
        rw [hv] at hcx HH
        clear hx hbl hrr HC hxx hv
        go_wp2_with fail
        refine (HC'.out _).mono ?_
        rintro e w5 ⟨rfl, hb⟩
        have HB5 := Lib.hid (HB.out.trans (hb.mono HB.out.size))
        clear hb e0 e1 e2 e3 e4 e5 e6 e7 e8 e9 e10 e11 e12
        go_wp2
        go_ret2
        exact ⟨⟨hi, by rw [HH.out]; rfl, HST.out⟩, HB5.out⟩
      · have d1 : decide (hi < n) = false := decide_eq_false hn2
        have HH : Hid (hereQ l id hi = false) := Lib.hid (by unfold hereQ; rw [HL.out, d1, Bool.false_and])
        go_wp2
        go_ret2
        exact ⟨⟨hi, by rw [HH.out]; rfl, HST.out⟩, HB.out⟩

set_option maxHeartbeats 1000000 in
/-- where a number stands; whether it does -/
theorem findQ_any {A : Option Addr} {n c : Nat} {l : Qu} {id : Int} {w : World} (hr : RQ w w.heap.size A n l) (hn : n ≤ 1000) (hi : RiseL l) :
    Calls Try.prog 35 #[.slice A n c, .int .i64 id] w fun e w' => (∃ K : Nat, e = .returned (.tuple #[.int .i64 K, .bool (decide (HasQ l id))]) ∧ (HasQ l id → K = atN l id)) ∧ Below w.heap.size w w' := by
  have HC := Lib.hid (binary_q A n c l id w hr hn hi)
  have HI := Lib.hid hi
  clear hr hi
  go_enter Try.func35, Try.ntmps35
  go_wp2_with fail
  refine HC.out.mono ?_
  rintro e w1 ⟨⟨K, rfl, hK⟩, hb⟩
  have HK := Lib.hid (stands_has HI.out hK)
  have HB := Lib.hid hb
  clear hK hb
  go_wp2
  go_ret2
  exact ⟨⟨K, by rw [← HK.out.1]; rfl, HK.out.2⟩, HB.out⟩
theorem findQ_yes {A : Option Addr} {n c : Nat} {l : Qu} {id : Int} {w : World} (hr : RQ w w.heap.size A n l) (hn : n ≤ 1000) (hi : RiseL l) (hh : HasQ l id) :
    Calls Try.prog 35 #[.slice A n c, .int .i64 id] w fun e w' => e = .returned (.tuple #[.int .i64 (atN l id), .bool true]) ∧ Below w.heap.size w w' :=
  (findQ_any (c := c) hr hn hi).mono fun e w' ⟨⟨K, h1, h2⟩, h3⟩ => ⟨by rw [h1, h2 hh, decide_eq_true hh], h3⟩
theorem findQ_no {A : Option Addr} {n c : Nat} {l : Qu} {id : Int} {w : World} (hr : RQ w w.heap.size A n l) (hn : n ≤ 1000) (hi : RiseL l) (hh : ¬ HasQ l id) :
    Calls Try.prog 35 #[.slice A n c, .int .i64 id] w fun e w' => (∃ K : Nat, e = .returned (.tuple #[.int .i64 K, .bool false])) ∧ Below w.heap.size w w' :=
  (findQ_any (c := c) hr hn hi).mono fun e w' ⟨⟨K, h1, _⟩, h3⟩ => ⟨⟨K, by rw [h1, decide_eq_false hh]⟩, h3⟩

set_option maxRecDepth 100000 in
set_option maxHeartbeats 1000000 in
theorem stateQ_any {A : Option Addr} {n c : Nat} {l : Qu} {id : Int} {w : World} {s : Int} (hr : RQ w w.heap.size A n l) (hn : n ≤ 1000) (hi : RiseL l) (hh : HasQ l id) (hs : (jOf l id).state = s) :
    Calls Try.prog 45 #[.slice A n c, .int .i64 id] w fun e w' => e = .returned (.int .i64 s) ∧ Below w.heap.size w w' := by
  have HC := Lib.hid (findQ_yes (c := c) hr hn hi hh)
  have HR := Lib.hid hr
  obtain ⟨k, hk⟩ : ∃ k, atN l id = k := ⟨_, rfl⟩
  have hkn : k < n := by rw [← hr.len, ← hk]; exact hh
  have HS : Hid ((jAt l k).state = s) := Lib.hid (by rw [← hs, ← hk]; rfl)
  have hkz : (k : Int) < (n : Int) := by omega
  rw [hk] at HC
  clear hr hi hh hk hs
  go_enter Try.func45, Try.ntmps45
  go_wp2_with fail
  refine HC.out.mono ?_
  rintro e w1 ⟨rfl, hb⟩
  obtain ⟨b, off, A2, m2, c2, rfl, _, ⟨e0, e1, e2, e3, e4, e5, e6, e7, e8, e9, e10, e11, e12⟩, _⟩ := (HR.out.next hb).one hkn
  rw [HS.out] at e9
  have HB := Lib.hid hb
  clear hb e0 e1 e2 e3 e4 e5 e6 e7 e8 e10 e11 e12
  go_wp2
  go_ret
  exact ⟨rfl, HB.out⟩

end Go.Proofs.Ytimgdlddfnglaaa
