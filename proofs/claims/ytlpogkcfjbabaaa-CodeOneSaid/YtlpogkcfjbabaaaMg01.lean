/- Plain facts on sets of numbers from 0 to 255 kept as rising lists; no condition. What a graph of things is, and what is over what, in plain words: chains of parents. No program's text is walked here. Small words that all layers share. The reference's Plus (bailiwickref02): a time and a length further on, at most Never; of any two numbers. What a job asks for, in plain words. No program's text is walked here. What is asked, as bytes, in plain words: numbers, specs, sets, lists of them; put, and read. No program's text is walked here. -/
import Derived.Test.YtlpogkcfjbabaaaProg
import Derived.WalkKit
import Derived.OwnWalk
import Derived.Lib.Hide
import Derived.Deep.Draws
import Derived.Below
import Derived.KernelRfl
import Derived.LoopTactic
namespace Go.Proofs.Ytlpogkcfjbabaaa

/-- place i of l: in range, and above the place before it -/
def okAt (l : List Int) (i : Nat) : Prop := 0 ≤ l.getD i 0 ∧ l.getD i 0 ≤ 255 ∧ (0 < i → l.getD (i - 1) 0 < l.getD i 0)
instance (l : List Int) (i : Nat) : Decidable (okAt l i) := by unfold okAt; infer_instance
def rightB (l : List Int) : Bool := decide (∀ i, i < l.length → okAt l i)

theorem rightB_iff (l : List Int) : rightB l = true ↔ ∀ i, i < l.length → okAt l i := by simp [rightB]
theorem rightB_false (l : List Int) (i : Nat) (hi : i < l.length) (h : ¬ okAt l i) : rightB l = false := by
  rw [← Bool.not_eq_true, rightB_iff]; exact fun H => h (H i hi)

theorem okAt_cons (x : Int) (t : List Int) (i : Nat) (hi : 0 < i) : okAt (x :: t) (i + 1) ↔ okAt t i := by
  unfold okAt
  have e : i + 1 - 1 = (i - 1) + 1 := by omega
  rw [e, List.getD_cons_succ, List.getD_cons_succ]
  simp [hi]

theorem right_tail {x : Int} {t : List Int} (h : rightB (x :: t) = true) : rightB t = true := by
  rw [rightB_iff] at h ⊢
  intro i hi
  rcases Nat.eq_zero_or_pos i with rfl | hp
  · have h1 := h 1 (by simp; omega)
    have h0 := h 0 (by simp)
    unfold okAt at h1 h0 ⊢
    simp at h1 h0 ⊢
    omega
  · exact (okAt_cons x t i hp).1 (h (i + 1) (by simp; omega))

theorem right_head {x : Int} {t : List Int} (h : rightB (x :: t) = true) : 0 ≤ x ∧ x ≤ 255 := by
  rw [rightB_iff] at h
  have h0 := h 0 (by simp)
  unfold okAt at h0; simp at h0; omega

theorem right_below {x : Int} {t : List Int} (h : rightB (x :: t) = true) : ∀ y ∈ t, x < y := by
  induction t generalizing x with
  | nil => intro y hy; cases hy
  | cons z t ih =>
    have hz : x < z := by
      rw [rightB_iff] at h
      have h1 := h 1 (by simp)
      unfold okAt at h1; simp at h1; omega
    intro y hy
    rcases List.mem_cons.1 hy with rfl | hy
    · exact hz
    · have := ih (right_tail h) y hy
      omega

theorem right_cons {x : Int} {t : List Int} (hx : 0 ≤ x ∧ x ≤ 255) (ht : rightB t = true) (hb : ∀ y ∈ t, x < y) : rightB (x :: t) = true := by
  rw [rightB_iff] at ht ⊢
  intro i hi
  rcases Nat.eq_zero_or_pos i with rfl | hp
  · unfold okAt; simp; exact hx
  · obtain ⟨j, rfl⟩ : ∃ j, i = j + 1 := ⟨i - 1, by omega⟩
    have hj : j < t.length := by simpa using hi
    have hk := ht j hj
    rcases Nat.eq_zero_or_pos j with rfl | hjp
    · have := hb (t.getD 0 0) (by simp [List.getD, hj])
      unfold okAt at hk ⊢
      simp at hk this ⊢
      omega
    · exact (okAt_cons x t j hjp).2 hk

theorem right_mem {l : List Int} (h : rightB l = true) : ∀ n ∈ l, 0 ≤ n ∧ n ≤ 255 := by
  induction l with
  | nil => intro n hn; cases hn
  | cons x t ih =>
    intro n hn
    rcases List.mem_cons.1 hn with rfl | hn
    · exact right_head h
    · exact ih (right_tail h) n hn

/-- two sets with the same numbers are one -/
theorem right_ext {a b : List Int} (ha : rightB a = true) (hb : rightB b = true) (h : ∀ n, n ∈ a ↔ n ∈ b) : a = b := by
  induction a generalizing b with
  | nil =>
    cases b with
    | nil => rfl
    | cons y t => exact absurd ((h y).2 (by simp)) (by simp)
  | cons x s ih =>
    cases b with
    | nil => exact absurd ((h x).1 (by simp)) (by simp)
    | cons y t =>
      have hxy : x = y := by
        have h1 := (h x).1 (by simp)
        have h2 := (h y).2 (by simp)
        rcases List.mem_cons.1 h1 with e | e
        · exact e
        · rcases List.mem_cons.1 h2 with e' | e'
          · exact e'.symm
          · have := right_below hb x e; have := right_below ha y e'; omega
      subst hxy
      rw [ih (right_tail ha) (right_tail hb) fun n => ?_]
      constructor
      · intro hn
        rcases List.mem_cons.1 ((h n).1 (List.mem_cons_of_mem _ hn)) with e | e
        · subst e; have := right_below ha n hn; omega
        · exact e
      · intro hn
        rcases List.mem_cons.1 ((h n).2 (List.mem_cons_of_mem _ hn)) with e | e
        · subst e; have := right_below hb n hn; omega
        · exact e

/-- the numbers from m up to below m + k that p says yes to -/
def pickN (p : Int → Bool) : Nat → Nat → List Int
  | _, 0 => []
  | m, k + 1 => if p m then (m : Int) :: pickN p (m + 1) k else pickN p (m + 1) k
def pickL (p : Int → Bool) : List Int := pickN p 0 256

theorem mem_pickN (p : Int → Bool) (n : Int) : ∀ (k m : Nat), n ∈ pickN p m k ↔ ((m : Int) ≤ n ∧ n < m + k ∧ p n = true)
  | 0, m => by simp [pickN]; omega
  | k + 1, m => by
    have ih := mem_pickN p n k (m + 1)
    unfold pickN
    by_cases hn : n = m
    · subst hn
      by_cases hp : p m = true
      · simp [hp]; omega
      · simp [hp, ih]
    · split
      · rw [List.mem_cons, ih]
        constructor
        · rintro (e | e)
          · exact absurd e hn
          · refine ⟨by omega, by omega, e.2.2⟩
        · intro e; right; exact ⟨by omega, by omega, e.2.2⟩
      · rw [ih]
        constructor
        · intro e; exact ⟨by omega, by omega, e.2.2⟩
        · intro e; exact ⟨by omega, by omega, e.2.2⟩

theorem mem_pickL (p : Int → Bool) (n : Int) : n ∈ pickL p ↔ (0 ≤ n ∧ n ≤ 255 ∧ p n = true) := by
  unfold pickL
  rw [mem_pickN]
  constructor
  · intro h; exact ⟨by omega, by omega, h.2.2⟩
  · intro h; exact ⟨by omega, by omega, h.2.2⟩

theorem right_pickN (p : Int → Bool) : ∀ (k m : Nat), m + k ≤ 256 → rightB (pickN p m k) = true
  | 0, m, _ => by simp [pickN, rightB]
  | k + 1, m, h => by
    have ih := right_pickN p k (m + 1) (by omega)
    unfold pickN
    split
    · refine right_cons (by omega) ih fun y hy => ?_
      have := (mem_pickN p y k (m + 1)).1 hy
      omega
    · exact ih

theorem right_pickL (p : Int → Bool) : rightB (pickL p) = true := right_pickN p 256 0 (by omega)

theorem length_pickN (p : Int → Bool) : ∀ (k m : Nat), (pickN p m k).length ≤ k
  | 0, _ => by simp [pickN]
  | k + 1, m => by
    have ih := length_pickN p k (m + 1)
    unfold pickN
    split
    · simp; omega
    · omega
theorem length_pickL (p : Int → Bool) : (pickL p).length ≤ 256 := length_pickN p 256 0

theorem pickN_snoc (p : Int → Bool) : ∀ (k m : Nat), pickN p m (k + 1) = pickN p m k ++ (if p ((m + k : Nat) : Int) then [((m + k : Nat) : Int)] else [])
  | 0, m => by simp [pickN]
  | k + 1, m => by
    have ih := pickN_snoc p k (m + 1)
    rw [pickN, ih]
    conv => rhs; rw [pickN]
    have e : m + 1 + k = m + (k + 1) := by omega
    rw [e]
    split <;> simp

theorem pickL_congr {p q : Int → Bool} (h : ∀ n, 0 ≤ n → n ≤ 255 → p n = q n) : pickL p = pickL q :=
  right_ext (right_pickL p) (right_pickL q) fun n => by
    rw [mem_pickL, mem_pickL]
    constructor
    · intro e; exact ⟨e.1, e.2.1, by rw [← h n e.1 e.2.1]; exact e.2.2⟩
    · intro e; exact ⟨e.1, e.2.1, by rw [h n e.1 e.2.1]; exact e.2.2⟩

theorem right_pick {l : List Int} (h : rightB l = true) : pickL (fun n => l.contains n) = l :=
  right_ext (right_pickL _) h fun n => by
    rw [mem_pickL, List.contains_iff_mem]
    constructor
    · intro e; exact e.2.2
    · intro e; have := right_mem h n e; exact ⟨this.1, this.2, e⟩

def inB (xs : List Int) (v : Int) : Bool := xs.contains v

/-- what the document says of two sets: 0 either, 1 both, 2 the first alone -/
def keeps (how : Nat) (a b : List Int) (n : Int) : Bool :=
  if how = 0 then a.contains n || b.contains n else if how = 1 then a.contains n && b.contains n else a.contains n && !b.contains n
def whichL (how : Nat) (a b : List Int) : List Int := if rightB a && rightB b then pickL (keeps how a b) else []
def joinL (a b : List Int) : List Int := whichL 0 a b
def meetL (a b : List Int) : List Int := whichL 1 a b
def lessL (a b : List Int) : List Int := whichL 2 a b
def hasB (a : List Int) (n : Int) : Bool := rightB a && a.contains n
def partB (a b : List Int) : Bool := rightB a && rightB b && a.all fun n => b.contains n
def apartB (a b : List Int) : Bool := rightB a && rightB b && a.all fun n => !b.contains n

theorem right_whichL (how : Nat) (a b : List Int) : rightB (whichL how a b) = true := by
  unfold whichL; split
  · exact right_pickL _
  · simp [rightB]
theorem length_whichL (how : Nat) (a b : List Int) : (whichL how a b).length ≤ 256 := by
  unfold whichL; split
  · exact length_pickL _
  · simp

theorem whichL_wrong {how : Nat} {a b : List Int} (h : (rightB a && rightB b) = false) : whichL how a b = [] := by
  unfold whichL; rw [h]; rfl

theorem mem_joinL {a b : List Int} (ha : rightB a = true) (hb : rightB b = true) (n : Int) : n ∈ joinL a b ↔ n ∈ a ∨ n ∈ b := by
  unfold joinL whichL
  rw [ha, hb]
  simp only [Bool.and_self, if_true, mem_pickL, keeps, Bool.or_eq_true, List.contains_iff_mem]
  constructor
  · exact fun h => h.2.2
  · intro h
    have : 0 ≤ n ∧ n ≤ 255 := by exact h.elim (right_mem ha n) (right_mem hb n)
    exact ⟨this.1, this.2, h⟩
theorem mem_meetL {a b : List Int} (ha : rightB a = true) (hb : rightB b = true) (n : Int) : n ∈ meetL a b ↔ n ∈ a ∧ n ∈ b := by
  unfold meetL whichL
  rw [ha, hb]
  simp only [Bool.and_self, if_true, mem_pickL, keeps]
  simp only [Nat.one_ne_zero, if_false, Bool.and_eq_true, List.contains_iff_mem]
  constructor
  · exact fun h => h.2.2
  · intro h; have := right_mem ha n h.1; exact ⟨this.1, this.2, h⟩
theorem mem_lessL {a b : List Int} (ha : rightB a = true) (hb : rightB b = true) (n : Int) : n ∈ lessL a b ↔ n ∈ a ∧ n ∉ b := by
  unfold lessL whichL
  rw [ha, hb]
  simp only [Bool.and_self, if_true, mem_pickL, keeps]
  have e2 : ¬ (2 : Nat) = 0 := by omega
  have e1 : ¬ (2 : Nat) = 1 := by omega
  simp only [e2, e1, if_false, Bool.and_eq_true, List.contains_iff_mem, Bool.not_eq_true', ← Bool.not_eq_true]
  constructor
  · exact fun h => h.2.2
  · intro h; have := right_mem ha n h.1; exact ⟨this.1, this.2, h⟩

theorem right_joinL (a b : List Int) : rightB (joinL a b) = true := right_whichL 0 a b
theorem right_meetL (a b : List Int) : rightB (meetL a b) = true := right_whichL 1 a b
theorem right_lessL (a b : List Int) : rightB (lessL a b) = true := right_whichL 2 a b

/-- P1.1: Part is told by the count of the Meet -/
theorem length_le_of_sub {a b : List Int} (ha : rightB a = true) (hb : rightB b = true) (h : ∀ n ∈ a, n ∈ b) : a.length ≤ b.length := by
  induction a generalizing b with
  | nil => simp
  | cons x s ih =>
    induction b with
    | nil => exact absurd (h x (by simp)) (by simp)
    | cons y t iht =>
      by_cases hxy : x = y
      · subst hxy
        have := ih (right_tail ha) (right_tail hb) fun n hn => by
          rcases List.mem_cons.1 (h n (List.mem_cons_of_mem _ hn)) with e | e
          · subst e; have := right_below ha n hn; omega
          · exact e
        simp; omega
      · have hyx : y < x := by
          rcases List.mem_cons.1 (h x (by simp)) with e | e
          · exact absurd e hxy
          · exact right_below hb x e
        have := iht (right_tail hb) fun n hn => by
          rcases List.mem_cons.1 (h n hn) with e | e
          · subst e
            rcases List.mem_cons.1 hn with e' | e'
            · exact absurd e'.symm hxy
            · have := right_below ha n e'; omega
          · exact e
        simp at this ⊢; omega

theorem eq_of_sub_length {a b : List Int} (ha : rightB a = true) (hb : rightB b = true) (h : ∀ n ∈ a, n ∈ b) (hl : b.length ≤ a.length) : a = b := by
  induction a generalizing b with
  | nil => exact (List.eq_nil_of_length_eq_zero (by simpa using hl)).symm
  | cons x s ih =>
    cases b with
    | nil => exact absurd (h x (by simp)) (by simp)
    | cons y t =>
      by_cases hxy : x = y
      · subst hxy
        rw [ih (right_tail ha) (right_tail hb) (fun n hn => by
          rcases List.mem_cons.1 (h n (List.mem_cons_of_mem _ hn)) with e | e
          · subst e; have := right_below ha n hn; omega
          · exact e) (by simpa using hl)]
      · have hyx : y < x := by
          rcases List.mem_cons.1 (h x (by simp)) with e | e
          · exact absurd e hxy
          · exact right_below hb x e
        have := length_le_of_sub ha (right_tail hb) fun n hn => by
          rcases List.mem_cons.1 (h n hn) with e | e
          · subst e
            rcases List.mem_cons.1 hn with e' | e'
            · exact absurd e'.symm hxy
            · have := right_below ha n e'; omega
          · exact e
        simp at this hl; omega

theorem part_length (a b : List Int) : partB a b = (rightB a && rightB b && decide ((meetL a b).length = a.length)) := by
  unfold partB
  by_cases ha : rightB a = true
  · by_cases hb : rightB b = true
    · rw [ha, hb]
      simp only [Bool.and_self, Bool.true_and]
      rw [Bool.eq_iff_iff]
      simp only [List.all_eq_true, List.contains_iff_mem, decide_eq_true_eq]
      constructor
      · intro h
        have : meetL a b = a := right_ext (right_meetL a b) ha fun n => by
          rw [mem_meetL ha hb]; exact ⟨fun e => e.1, fun e => ⟨e, h n e⟩⟩
        rw [this]
      · intro h n hn
        have e := eq_of_sub_length (right_meetL a b) ha (fun n hn => ((mem_meetL ha hb n).1 hn).1) (by omega)
        rw [← e] at hn
        exact ((mem_meetL ha hb n).1 hn).2
    · simp [hb]
  · simp [ha]
theorem apart_length (a b : List Int) : apartB a b = (rightB a && rightB b && decide ((meetL a b).length = 0)) := by
  unfold apartB
  by_cases ha : rightB a = true
  · by_cases hb : rightB b = true
    · rw [ha, hb]
      simp only [Bool.and_self, Bool.true_and]
      rw [Bool.eq_iff_iff]
      simp only [List.all_eq_true, Bool.not_eq_true', ← Bool.not_eq_true, List.contains_iff_mem, decide_eq_true_eq]
      constructor
      · intro h
        have : meetL a b = [] := List.eq_nil_iff_forall_not_mem.2 fun n hn => h n ((mem_meetL ha hb n).1 hn).1 ((mem_meetL ha hb n).1 hn).2
        rw [this]; rfl
      · intro h n hn hnb
        have e := List.eq_nil_of_length_eq_zero h
        have := (mem_meetL ha hb n).2 ⟨hn, hnb⟩
        rw [e] at this; cases this
    · simp [hb]
  · simp [ha]

end Go.Proofs.Ytlpogkcfjbabaaa

namespace Go.Proofs.Ytlpogkcfjbabaaa

/-- a thing: its kind, what it is part of, its tag -/
structure Th where
  kind : Int
  up : Int
  tag : ByteArray
def th0 : Th := ⟨0, 0, ⟨#[]⟩⟩
abbrev Gr := List Th
def gk (g : Gr) (i : Nat) : Int := (g.getD i th0).kind
def gu (g : Gr) (i : Nat) : Int := (g.getD i th0).up
def gt (g : Gr) (i : Nat) : ByteArray := (g.getD i th0).tag

def tagC (c : UInt8) : Bool := (97 ≤ c.toNat && c.toNat ≤ 122) || (48 ≤ c.toNat && c.toNat ≤ 57)
def tagB (s : ByteArray) : Bool := s.data.toList.all tagC && decide (s.size ≤ 16)
/-- thing i stands where it may -/
def okT (g : Gr) (i : Nat) : Prop :=
  if i = 0 then gk g 0 = 0 ∧ gu g 0 = -1 ∧ (gt g 0).size = 0 else
    0 ≤ gu g i ∧ gu g i < i ∧ ((gt g i).size = 0 ∨ gk g i = 2) ∧ tagB (gt g i) = true ∧
      ((gk g i = 1 ∧ gk g (gu g i).toNat = 0) ∨ (gk g i = 2 ∧ gk g (gu g i).toNat < 2) ∨ ((gk g i = 3 ∨ gk g i = 4) ∧ gk g (gu g i).toNat = 2))
instance (g : Gr) (i : Nat) : Decidable (okT g i) := by unfold okT; infer_instance
def rightG (g : Gr) : Bool := decide (g ≠ [] ∧ g.length ≤ 256 ∧ ∀ i, i < g.length → okT g i)

/-- the parent's number -/
def par (g : Gr) (k : Nat) : Nat := (gu g k).toNat
/-- is n the thing k, or is k a part of it: up the chain, as far as n -/
def overF (g : Gr) (n : Nat) : Nat → Nat → Bool
  | 0, k => k == n
  | f + 1, k => if n < k then overF g n f (par g k) else k == n
def overG (g : Gr) (n k : Nat) : Bool := overF g n k k

structure RightG (g : Gr) : Prop where
  pos : 0 < g.length
  few : g.length ≤ 256
  top : gk g 0 = 0 ∧ gu g 0 = -1
  up : ∀ i, 0 < i → i < g.length → 0 ≤ gu g i ∧ par g i < i
  kind : ∀ i, 0 < i → i < g.length → (gk g i = 1 ∧ gk g (par g i) = 0) ∨ (gk g i = 2 ∧ gk g (par g i) < 2) ∨ ((gk g i = 3 ∨ gk g i = 4) ∧ gk g (par g i) = 2)
theorem rightG_is {g : Gr} (h : rightG g = true) : RightG g := by
  unfold rightG at h
  rw [decide_eq_true_eq] at h
  obtain ⟨h1, h2, h3⟩ := h
  have h0 := h3 0 (List.length_pos_iff.2 h1)
  unfold okT at h0
  rw [if_pos rfl] at h0
  refine ⟨List.length_pos_iff.2 h1, h2, ⟨h0.1, h0.2.1⟩, fun i hi hl => ?_, fun i hi hl => ?_⟩
  all_goals
    have := h3 i hl
    unfold okT at this
    rw [if_neg (by omega)] at this
  · unfold par; omega
  · exact this.2.2.2.2
section
variable {g : Gr} (hg : RightG g) {n k m : Nat}
include hg
theorem RightG.kinds (hk : k < g.length) : 0 ≤ gk g k ∧ gk g k ≤ 4 := by
  rcases Nat.eq_zero_or_pos k with h | h
  · subst h; have := hg.top.1; omega
  · rcases hg.kind k h hk with h | h | h <;> omega
/-- more steps than are needed change nothing -/
theorem overF_more : ∀ (f : Nat) (k : Nat), k < g.length → k ≤ f → overF g n f k = overF g n k k := by
  have hg' := hg
  intro f
  induction f using Nat.strongRecOn with
  | _ f ih =>
    intro k hk hf
    rcases Nat.eq_zero_or_pos k with h | h
    · subst h
      cases f with
      | zero => rfl
      | succ f => show (if n < 0 then _ else (0 == n)) = (0 == n); rw [if_neg (by omega)]
    · obtain ⟨f', rfl⟩ : ∃ f', f = f' + 1 := ⟨f - 1, by omega⟩
      obtain ⟨k', rfl⟩ : ∃ k', k = k' + 1 := ⟨k - 1, by omega⟩
      have hp := (hg.up (k' + 1) (by omega) hk).2
      show (if n < k' + 1 then overF g n f' (par g (k' + 1)) else _) = (if n < k' + 1 then overF g n k' (par g (k' + 1)) else _)
      split
      · rw [ih f' (by omega) _ (by omega) (by omega)]
        by_cases hkf : k' = f'
        · subst hkf; rw [ih k' (by omega) _ (by omega) (by omega)]
        · rw [ih k' (by omega) _ (by omega) (by omega)]
      · rfl
/-- up one step -/
theorem over_up (hk : k < g.length) (h : n < k) : overG g n k = overG g n (par g k) := by
  have hp := (hg.up k (by omega) hk).2
  obtain ⟨k', rfl⟩ : ∃ k', k = k' + 1 := ⟨k - 1, by omega⟩
  show (if n < k' + 1 then overF g n k' (par g (k' + 1)) else _) = _
  rw [if_pos h]
  exact overF_more hg k' (par g (k' + 1)) (by omega) (by omega)
omit hg in
theorem over_end (h : ¬ n < k) : overG g n k = (k == n) := by
  unfold overG
  cases k with
  | zero => rfl
  | succ k => show (if n < k + 1 then _ else _) = _; rw [if_neg h]
omit hg in
theorem over_self : overG g n n = true := by rw [over_end (by omega)]; simp
omit hg in
theorem over_le (h : overG g n k = true) : n ≤ k := by
  by_cases hnk : n < k
  · omega
  · rw [over_end hnk] at h; simp at h; omega
theorem over_zero : ∀ (k : Nat), k < g.length → overG g 0 k = true := by
  intro k
  induction k using Nat.strongRecOn with
  | _ k ih =>
    intro hk
    rcases Nat.eq_zero_or_pos k with h | h
    · subst h; exact over_self
    · rw [over_up hg hk h]
      have := (hg.up k h hk).2
      exact ih _ this (by omega)
/-- what is part of a part is a part -/
theorem over_trans : ∀ (k : Nat), k < g.length → overG g m k = true → overG g n m = true → overG g n k = true := by
  intro k
  induction k using Nat.strongRecOn with
  | _ k ih =>
    intro hk h1 h2
    by_cases hmk : m < k
    · have hp := (hg.up k (by omega) hk).2
      rw [over_up hg hk hmk] at h1
      have hnm := over_le h2
      have hmp := over_le h1
      rw [over_up hg hk (by omega)]
      exact ih _ hp (by omega) h1 h2
    · rw [over_end hmk] at h1
      simp at h1
      subst h1
      exact h2
/-- of two that are over one thing, one is over the other -/
theorem over_chain : ∀ (k : Nat), k < g.length → overG g n k = true → overG g m k = true → n ≤ m → overG g n m = true := by
  intro k
  induction k using Nat.strongRecOn with
  | _ k ih =>
    intro hk h1 h2 hnm
    by_cases hmk : m < k
    · have hp := (hg.up k (by omega) hk).2
      rw [over_up hg hk hmk] at h2
      rw [over_up hg hk (by omega)] at h1
      exact ih _ hp (by omega) h1 h2 hnm
    · rw [over_end hmk] at h2
      simp at h2
      subst h2
      exact h1
end

/-! sets of things -/
def numsF (p : Nat → Bool) (n : Nat) : List Int := ((List.range n).filter p).map Int.ofNat
theorem mem_numsF {p : Nat → Bool} {n : Nat} {x : Int} : x ∈ numsF p n ↔ ∃ k : Nat, k < n ∧ p k = true ∧ x = k := by
  unfold numsF
  rw [List.mem_map]
  constructor
  · rintro ⟨k, hk, rfl⟩
    rw [List.mem_filter, List.mem_range] at hk
    exact ⟨k, hk.1, hk.2, rfl⟩
  · rintro ⟨k, hk, hp, rfl⟩
    exact ⟨k, by rw [List.mem_filter, List.mem_range]; exact ⟨hk, hp⟩, rfl⟩
theorem mem_numsF_nat {p : Nat → Bool} {n k : Nat} : (k : Int) ∈ numsF p n ↔ k < n ∧ p k = true := by
  rw [mem_numsF]
  constructor
  · rintro ⟨j, h1, h2, h3⟩
    obtain rfl : k = j := by omega
    exact ⟨h1, h2⟩
  · rintro ⟨h1, h2⟩
    exact ⟨k, h1, h2, rfl⟩
theorem numsF_succ (p : Nat → Bool) (n : Nat) : numsF p (n + 1) = numsF p n ++ (if p n = true then [(n : Int)] else []) := by
  unfold numsF
  rw [List.range_succ, List.filter_append, List.map_append]
  congr 1
  by_cases h : p n = true
  · rw [if_pos h]; simp [h]
  · rw [if_neg h]; simp [h]
theorem numsF_yes {p : Nat → Bool} {n : Nat} (h : p n = true) : numsF p (n + 1) = numsF p n ++ [(n : Int)] := by rw [numsF_succ, if_pos h]
theorem numsF_no {p : Nat → Bool} {n : Nat} (h : p n = false) : numsF p (n + 1) = numsF p n := by rw [numsF_succ, if_neg (by rw [h]; simp), List.append_nil]
theorem numsF_len (p : Nat → Bool) (n : Nat) : (numsF p n).length ≤ n := by
  unfold numsF
  rw [List.length_map]
  have := List.length_filter_le p (List.range n)
  rw [List.length_range] at this
  exact this
theorem numsF_pick (p : Nat → Bool) (n : Nat) : ∀ (_ : n ≤ 256), numsF p n = pickN (fun x => decide (0 ≤ x) && p x.toNat) 0 n := by
  intro hn
  induction n with
  | zero => rfl
  | succ n ih =>
    rw [numsF_succ, pickN_snoc, ih (by omega)]
    simp
theorem numsF_right (p : Nat → Bool) {n : Nat} (hn : n ≤ 256) : rightB (numsF p n) = true := by
  rw [numsF_pick p n hn]; exact right_pickN _ n 0 (by omega)
theorem numsF_ext {p q : Nat → Bool} {n : Nat} (h : ∀ k, k < n → p k = q k) : numsF p n = numsF q n := by
  unfold numsF
  congr 1
  exact List.filter_congr fun k hk => h k (List.mem_range.1 hk)

/-- thing n and all that is part of it; n and what it is part of -/
def underL (g : Gr) (n : Int) : List Int := if rightG g = true ∧ 0 ≤ n ∧ n < g.length then numsF (overG g n.toNat) g.length else []
def aboveL (g : Gr) (n : Int) : List Int := if rightG g = true ∧ 0 ≤ n ∧ n < g.length then numsF (fun k => overG g k n.toNat) (n.toNat + 1) else []
def nodeG (g : Gr) (n : Int) : Int :=
  if rightG g = true ∧ 0 ≤ n ∧ n < g.length then (if gk g n.toNat = 2 then n else if 2 < gk g n.toNat then gu g n.toNat else -1) else -1
def nodesL (g : Gr) : List Int := if rightG g = true then numsF (fun k => gk g k == 2) g.length else []
/-- how many of the first n things are in the set and of this kind -/
def cntK (g : Gr) (l : List Int) (c : Int) (n : Nat) : Nat := ((List.range n).filter fun k : Nat => hasB l (k : Int) && gk g k == c).length
def kc (g : Gr) (l : List Int) (c : Int) : Int := if rightG g = true then (cntK g l c g.length : Int) else 0
theorem cntK_succ (g : Gr) (l : List Int) (c : Int) (n : Nat) : cntK g l c (n + 1) = cntK g l c n + (if hasB l n = true ∧ gk g n = c then 1 else 0) := by
  unfold cntK
  rw [List.range_succ, List.filter_append, List.length_append]
  congr 1
  by_cases h : hasB l n = true ∧ gk g n = c
  · rw [if_pos h]; simp [h.1, h.2]
  · rw [if_neg h]
    rw [List.filter_eq_nil_iff.2]
    · rfl
    · intro x hx
      simp at hx
      subst hx
      intro h'
      rw [Bool.and_eq_true, beq_iff_eq] at h'
      exact h h'
theorem cntK_le (g : Gr) (l : List Int) (c : Int) (n : Nat) : cntK g l c n ≤ n := by
  unfold cntK
  have := List.length_filter_le (fun k : Nat => hasB l (k : Int) && gk g k == c) (List.range n)
  rw [List.length_range] at this
  exact this
/-- is a thing above one of the set? -/
def anyOver (g : Gr) (l : List Int) (n : Nat) : Bool := l.any fun x => overG g n x.toNat
def wholeOk (g : Gr) (l : List Int) : Bool := rightG g && rightB l && decide (∀ x ∈ l, x < g.length)
def wholeL (g : Gr) (l : List Int) : List Int := if wholeOk g l = true then numsF (anyOver g l) g.length else []

end Go.Proofs.Ytlpogkcfjbabaaa

namespace Go.Proofs.Ytlpogkcfjbabaaa
open Go.RowKit

/-- in an int's bounds -/
def I64 (x : Int) : Prop := -9223372036854775808 ≤ x ∧ x ≤ 9223372036854775807
theorem ret_bool {a b : Bool} (h : b = a) : Ending.returned (.bool a) = .returned (.bool b) := by rw [h]
theorem ret_int {k : IntKind} {a b : Int} (h : a = b) : Ending.returned (.int k a) = .returned (.int k b) := by rw [h]
theorem ret_num {k : IntKind} {a b : Int} (h : a = b) : Ending.returned (.int k a) = .returned (.int k b) := by rw [h]
theorem add_none (b o n : Nat) : (⟨b, o, none⟩ : Addr).add n = ⟨b, o + n, none⟩ := by unfold Addr.add; split <;> simp_all
theorem own_form {w : World} {base n : Nat} {e : TypeId} {C : Nat} {v : Value} {xs : List Value} (h : w.ownsRow base e C v n xs) : ∃ A c, v = .slice A n c := by
  rcases h.2 with ⟨hv, h0⟩ | ⟨g, cap, cur, hv, _⟩
  · subst h0; exact ⟨none, 0, hv⟩
  · exact ⟨_, _, hv⟩
theorem own_cap {w : World} {B n c C : Nat} {e : TypeId} {A : Option Addr} {xs : List Value} (h : w.ownsRow B e C (.slice A n c) n xs) : n ≤ c := by
  rcases h.2 with ⟨hv, h0⟩ | ⟨g, cap, cur, hv, _, _, hcap, _⟩
  · omega
  · injection hv with _ _ h3
    omega
theorem own_base {w : World} {B B' n C : Nat} {e : TypeId} {v : Value} {xs : List Value} (h : w.ownsRow B e C v n xs) (hB : B' ≤ B) : w.ownsRow B' e C v n xs := by
  refine ⟨h.1, h.2.imp id ?_⟩
  rintro ⟨g, cap, cur, h1, h2, h3⟩
  exact ⟨g, cap, cur, h1, Nat.le_trans hB h2, h3⟩
theorem info_parts {t : TypeId} {z : Value} {s b : Nat} (h : (Try.prog.info? t).map (fun i => (i.zero, i.size, i.bytes)) = some (some z, s, b)) : ∃ i, Try.prog.info? t = some i ∧ i.zero = some z ∧ i.size = s ∧ i.bytes = b := by
  cases hi : Try.prog.info? t with
  | none => rw [hi] at h; cases h
  | some i =>
    rw [hi] at h
    simp only [Option.map_some, Option.some.injEq, Prod.mk.injEq] at h
    exact ⟨i, rfl, h.1, h.2.1, h.2.2⟩

theorem bel_drew (w : World) (q : Nat) : Below w.heap.size w (w.drewN q) := ⟨rfl, rfl, rfl, Nat.le_refl _, fun _ _ => rfl⟩
theorem bel_und {w w' : World} (h : Below w.drew.heap.size w.drew w') : Below w.heap.size w w' := ⟨h.os, h.tape, h.output, h.size, h.block⟩
theorem bel_more {B : Nat} {a w : World} (h : Below B a w) (q : Nat) : Below B a (w.drewN q) := ⟨h.os, h.tape, h.output, h.size, h.block⟩

theorem bel_same {P : Ending → Prop} {F : FuncId} {args : Array Value} {w : World} (h : Calls Try.prog F args w fun e w' => P e ∧ w = w') : Calls Try.prog F args w fun e w' => P e ∧ Below w.heap.size w w' :=
  h.mono fun _ _ ⟨h1, h2⟩ => ⟨h1, by rw [← h2]; exact Below.refl _ _⟩


theorem calls_pair {P : Program} {f : FuncId} {args : Array Value} {w : World} {r : Int × Int} {x y : Int} (h : Calls P f args w fun e w' => e = .returned (.tuple #[.int .i64 r.1, .int .i64 r.2]) ∧ Below w.heap.size w w') (e : r = (x, y)) :
    Calls P f args w fun e w' => e = .returned (.tuple #[.int .i64 x, .int .i64 y]) ∧ Below w.heap.size w w' := by
  subst e; exact h
theorem calls_first {P : Program} {f : FuncId} {args : Array Value} {w : World} {r : Int × Bool} {x : Int} {y : Bool} (h : Calls P f args w fun e w' => e = .returned (.tuple #[.int .i64 r.1, .bool r.2]) ∧ Below w.heap.size w w') (e : r = (x, y)) :
    Calls P f args w fun e w' => e = .returned (.tuple #[.int .i64 x, .bool y]) ∧ Below w.heap.size w w' := by
  subst e; exact h
theorem calls_int {P : Program} {f : FuncId} {args : Array Value} {w : World} {r x : Int} (h : Calls P f args w fun e w' => e = .returned (.int .i64 r) ∧ Below w.heap.size w w') (e : r = x) :
    Calls P f args w fun e w' => e = .returned (.int .i64 x) ∧ Below w.heap.size w w' := by
  subst e; exact h
theorem calls_bool {P : Program} {f : FuncId} {args : Array Value} {w : World} {r x : Bool} (h : Calls P f args w fun e w' => e = .returned (.bool r) ∧ Below w.heap.size w w') (e : r = x) :
    Calls P f args w fun e w' => e = .returned (.bool x) ∧ Below w.heap.size w w' := by
  subst e; exact h

theorem int_info : (Try.prog.info? 3).map (fun i => (i.zero, i.size, i.bytes)) = some (some (.int .i64 0), 1, 8) := by kernel_rfl

theorem own_empty2 (w : World) (e : TypeId) : (w.alloc (.cells #[] e)).ownsRow w.heap.size e 2 (.slice (some ⟨w.heap.size, 0, none⟩) 0 0) 0 [] :=
  World.ownsRow_made w #[] 0 (Nat.le_refl _) (Nat.zero_le _) rfl
theorem own_nil {w : World} {B n c C : Nat} {e : TypeId} {A : Option Addr} {xs : List Value} (h : w.ownsRow B e C (.slice A n c) n xs) : A = none → c = 0 := by
  intro hA
  subst hA
  rcases h.2 with ⟨hv, _⟩ | ⟨g, cap, cur, hv, _⟩
  · injection hv
  · injection hv with hv
    cases hv

end Go.Proofs.Ytlpogkcfjbabaaa

namespace Go.Proofs.Ytlpogkcfjbabaaa
open Go.RowKit

def nearZ (x : Int) : Int := if x < 0 then 0 else if 4611686018427387904 < x then 4611686018427387904 else x
def plusZ (t l : Int) : Int := if 4611686018427387904 < nearZ t + nearZ l then 4611686018427387904 else nearZ t + nearZ l
theorem nearZ_range (x : Int) : 0 ≤ nearZ x ∧ nearZ x ≤ 4611686018427387904 := by unfold nearZ; repeat' split; all_goals omega



end Go.Proofs.Ytlpogkcfjbabaaa

namespace Go.Proofs.Ytlpogkcfjbabaaa

/-- a spec -/
structure Sp where
  nodes : Int
  cores : Int
  gpus : Int
  tag : ByteArray
  whole : Bool
  long : Int
  prio : Int
def sp0 : Sp := ⟨0, 0, 0, ⟨#[]⟩, false, 0, 0⟩
def rightS (s : Sp) : Bool :=
  tagB s.tag && decide ((1 ≤ s.nodes ∧ s.nodes ≤ 64) ∧ (0 ≤ s.cores ∧ s.cores ≤ 64) ∧ (0 ≤ s.gpus ∧ s.gpus ≤ 64) ∧ ¬ (s.cores = 0 ∧ s.gpus = 0 ∧ s.whole = false) ∧ (1 ≤ s.long ∧ s.long ≤ 1099511627776) ∧ (-1000 ≤ s.prio ∧ s.prio ≤ 1000))
/-- how many cores and gpus in all -/
def sizeS (s : Sp) : Int := s.nodes * s.cores + s.nodes * s.gpus
def endsS (s : Sp) (a : Int) : Int := plusZ a (if rightS s = true then s.long else 0)
def aheadS (a b : Sp) : Bool := rightS a && (rightS b && (if a.prio ≠ b.prio then decide (b.prio < a.prio) else if sizeS a ≠ sizeS b then decide (sizeS a < sizeS b) else decide (a.long < b.long)))
def partS (s : Sp) (n : Int) : Sp × Int := if rightS s = false ∨ n < 0 then (sp0, 1) else if s.nodes ≤ n then (sp0, 6) else ({ s with nodes := s.nodes - n }, 0)
def asksS (s : Sp) : Int × Int × Int := if rightS s = true then (s.nodes, s.nodes * s.cores, s.nodes * s.gpus) else (0, 0, 0)

theorem rightS_is {s : Sp} (h : rightS s = true) : tagB s.tag = true ∧ (1 ≤ s.nodes ∧ s.nodes ≤ 64) ∧ (0 ≤ s.cores ∧ s.cores ≤ 64) ∧ (0 ≤ s.gpus ∧ s.gpus ≤ 64) ∧ ¬ (s.cores = 0 ∧ s.gpus = 0 ∧ s.whole = false) ∧ (1 ≤ s.long ∧ s.long ≤ 1099511627776) ∧ (-1000 ≤ s.prio ∧ s.prio ≤ 1000) := by
  unfold rightS at h
  rwa [Bool.and_eq_true, decide_eq_true_eq] at h
theorem rightS_no {s : Sp} (h : ¬ (tagB s.tag = true ∧ (1 ≤ s.nodes ∧ s.nodes ≤ 64) ∧ (0 ≤ s.cores ∧ s.cores ≤ 64) ∧ (0 ≤ s.gpus ∧ s.gpus ≤ 64) ∧ ¬ (s.cores = 0 ∧ s.gpus = 0 ∧ s.whole = false) ∧ (1 ≤ s.long ∧ s.long ≤ 1099511627776) ∧ (-1000 ≤ s.prio ∧ s.prio ≤ 1000))) : rightS s = false := by
  cases hr : rightS s with
  | false => rfl
  | true => exact absurd (rightS_is hr) h
theorem rightS_mk {s : Sp} (h : tagB s.tag = true ∧ (1 ≤ s.nodes ∧ s.nodes ≤ 64) ∧ (0 ≤ s.cores ∧ s.cores ≤ 64) ∧ (0 ≤ s.gpus ∧ s.gpus ≤ 64) ∧ ¬ (s.cores = 0 ∧ s.gpus = 0 ∧ s.whole = false) ∧ (1 ≤ s.long ∧ s.long ≤ 1099511627776) ∧ (-1000 ≤ s.prio ∧ s.prio ≤ 1000)) : rightS s = true := by
  unfold rightS
  rwa [Bool.and_eq_true, decide_eq_true_eq]
theorem mul_bounds {x y : Int} (h1 : 0 ≤ x) (h2 : x ≤ 64) (h3 : 0 ≤ y) (h4 : y ≤ 64) : 0 ≤ x * y ∧ x * y ≤ 4096 := by
  refine ⟨Int.mul_nonneg h1 h3, ?_⟩
  have := Int.mul_le_mul h2 h4 h3 (by omega)
  omega
theorem sizeS_bounds {s : Sp} (h : rightS s = true) : 0 ≤ sizeS s ∧ sizeS s ≤ 8192 := by
  obtain ⟨_, h1, h2, h3, _⟩ := rightS_is h
  have a := mul_bounds (by omega) h1.2 h2.1 h2.2
  have b := mul_bounds (x := s.nodes) (by omega) h1.2 h3.1 h3.2
  unfold sizeS
  omega
theorem aheadS_iff {a b : Sp} : aheadS a b = true ↔ rightS a = true ∧ rightS b = true ∧ (b.prio < a.prio ∨ (a.prio = b.prio ∧ (sizeS a < sizeS b ∨ (sizeS a = sizeS b ∧ a.long < b.long)))) := by
  unfold aheadS
  rw [Bool.and_eq_true, Bool.and_eq_true]
  refine and_congr_right fun _ => and_congr_right fun _ => ?_
  split
  · rw [decide_eq_true_eq]; omega
  · split
    · rw [decide_eq_true_eq]; omega
    · rw [decide_eq_true_eq]; omega
theorem ahead_self (a : Sp) : aheadS a a = false := by
  rw [← Bool.not_eq_true, aheadS_iff]; omega
theorem ahead_both (a b : Sp) : ¬ (aheadS a b = true ∧ aheadS b a = true) := by
  rw [aheadS_iff, aheadS_iff]; omega
theorem ahead_on {a b c : Sp} (h1 : aheadS a b = true) (h2 : aheadS b c = true) : aheadS a c = true := by
  rw [aheadS_iff] at *
  obtain ⟨r1, _, h1⟩ := h1
  obtain ⟨_, r3, h2⟩ := h2
  exact ⟨r1, r3, by omega⟩
theorem ahead_alike {a b c : Sp} (ha : rightS a = true) (hb : rightS b = true) (hc : rightS c = true) (h1 : aheadS a b = false) (h2 : aheadS b a = false) (h3 : aheadS b c = false) (h4 : aheadS c b = false) : aheadS a c = false ∧ aheadS c a = false := by
  rw [← Bool.not_eq_true, aheadS_iff] at *
  rw [← Bool.not_eq_true, aheadS_iff]
  simp only [ha, hb, hc, true_and] at *
  omega
theorem ahead_round {a b c : Sp} (h : ¬ (rightS a = true ∧ rightS b = true ∧ rightS c = true)) : ¬ (aheadS a b = true ∧ aheadS b c = true ∧ aheadS c a = true) := by
  rw [aheadS_iff, aheadS_iff, aheadS_iff]
  rintro ⟨⟨h1, h2, _⟩, ⟨_, h3, _⟩, _⟩
  exact h ⟨h1, h2, h3⟩
theorem plus_rise {x y l : Int} (h : x ≤ y) : plusZ x l ≤ plusZ y l := by unfold plusZ nearZ; repeat' split; all_goals omega
theorem plus_near {x l : Int} (h0 : 0 ≤ x) (h1 : x ≤ 4294967295) (hl : 0 ≤ l) (hl2 : l ≤ 1099511627776) : plusZ x l = x + l := by unfold plusZ nearZ; repeat' split; all_goals omega
theorem plus_never {l : Int} (hl : 0 ≤ l) : plusZ 4611686018427387904 l = 4611686018427387904 := by unfold plusZ nearZ; repeat' split; all_goals omega
theorem partS_ok {s : Sp} {n : Int} (hr : rightS s = true) (hn : 0 ≤ n) : partS s n = if s.nodes ≤ n then (sp0, 6) else ({ s with nodes := s.nodes - n }, 0) := by
  unfold partS
  rw [if_neg]
  rintro (h | h)
  · rw [hr] at h; cases h
  · omega
/-- a part of a part is one part -/
theorem part_part {s a : Sp} {x y : Int} (hx : 0 ≤ x) (hy : 0 ≤ y) (h : partS s x = (a, 0)) : rightS a = true ∧ a.nodes = s.nodes - x ∧ a.cores = s.cores ∧ a.gpus = s.gpus ∧ rightS s = true ∧ partS a y = partS s (x + y) := by
  unfold partS at h
  split at h
  · injection h with _ h2; cases h2
  · rename_i h0
    split at h
    · injection h with _ h2; cases h2
    · rename_i h1
      injection h with h2
      subst h2
      have hr : rightS s = true := by
        cases hr : rightS s with
        | true => rfl
        | false => exact absurd (.inl hr) h0
      have hs := rightS_is hr
      have hr' : rightS { s with nodes := s.nodes - x } = true := rightS_mk ⟨hs.1, ⟨by show 1 ≤ s.nodes - x; omega, by show s.nodes - x ≤ 64; omega⟩, hs.2.2⟩
      refine ⟨hr', rfl, rfl, rfl, hr, ?_⟩
      rw [partS_ok hr' hy, partS_ok hr (by omega)]
      by_cases hlt : s.nodes ≤ x + y
      · rw [if_pos (by show s.nodes - x ≤ y; omega), if_pos hlt]
      · rw [if_neg (by show ¬ s.nodes - x ≤ y; omega), if_neg hlt]
        show (({ s with nodes := s.nodes - x - y } : Sp), (0 : Int)) = ({ s with nodes := s.nodes - (x + y) }, 0)
        rw [show s.nodes - x - y = s.nodes - (x + y) by omega]

end Go.Proofs.Ytlpogkcfjbabaaa

namespace Go.Proofs.Ytlpogkcfjbabaaa

abbrev Bs := List UInt8
/-- what a reader tells: a thing and what is left, or an error's number -/
abbrev Rd (α : Type) := Bs → Except Nat (α × Bs)
section
variable {α β : Type}
def retR (x : α) : Rd α := fun b => .ok (x, b)
def bindR (p : Rd α) (f : α → Rd β) : Rd β := fun b => match p b with
  | .ok (x, t) => f x t
  | .error e => .error e
def chkR (c : Prop) [Decidable c] : Rd Unit := fun b => if c then .ok ((), b) else .error 3
def byteR : Rd UInt8
  | [] => .error 2
  | c :: t => .ok (c, t)
def takeR (n : Nat) : Rd Bs := fun b => if b.length < n then .error 2 else .ok (b.take n, b.drop n)
/-- a reader looks at what it reads alone, byte by byte: cut short, it tells so -/
structure Clean (p : Rd α) : Prop where
  cut : ∀ b x t, p b = .ok (x, t) → ∃ u, b = u ++ t ∧ (∀ t', p (u ++ t') = .ok (x, t')) ∧ ∀ v w, u = v ++ w → w ≠ [] → p v = .error 2
theorem bindR_ok {p : Rd α} {f : α → Rd β} {b : Bs} {y : β} {t : Bs} (h : bindR p f b = .ok (y, t)) : ∃ x t1, p b = .ok (x, t1) ∧ f x t1 = .ok (y, t) := by
  unfold bindR at h
  cases hp : p b with
  | error e => rw [hp] at h; cases h
  | ok r => rw [hp] at h; exact ⟨r.1, r.2, rfl, h⟩
theorem bindR_at {p : Rd α} {f : α → Rd β} {b : Bs} {x : α} {t : Bs} (h : p b = .ok (x, t)) : bindR p f b = f x t := by unfold bindR; rw [h]
theorem bindR_err {p : Rd α} {f : α → Rd β} {b : Bs} {e : Nat} (h : p b = .error e) : bindR p f b = .error e := by unfold bindR; rw [h]
theorem clean_ret (x : α) : Clean (retR x) := ⟨fun b y t h => by
  unfold retR at h
  injection h with h; injection h with h1 h2
  subst h1 h2
  exact ⟨[], rfl, fun _ => rfl, fun v w h hw => by
    have := congrArg List.length h
    simp only [List.length_append, List.length_nil] at this
    exact absurd (List.eq_nil_of_length_eq_zero (by omega)) hw⟩⟩
theorem clean_chk (c : Prop) [Decidable c] : Clean (chkR c) := ⟨fun b y t h => by
  unfold chkR at h
  by_cases hc : c
  · rw [if_pos hc] at h
    injection h with h; injection h with h1 h2
    subst h2
    refine ⟨[], rfl, fun t' => ?_, fun v w h hw => ?_⟩
    · unfold chkR; rw [if_pos hc]; rfl
    · have := congrArg List.length h
      simp only [List.length_append, List.length_nil] at this
      exact absurd (List.eq_nil_of_length_eq_zero (by omega)) hw
  · rw [if_neg hc] at h; cases h⟩
theorem clean_byte : Clean byteR := ⟨fun b c t h => by
  cases b with
  | nil => cases h
  | cons d s =>
    unfold byteR at h
    injection h with h; injection h with h1 h2
    subst h1 h2
    refine ⟨[d], rfl, fun _ => rfl, fun v w h hw => ?_⟩
    cases v with
    | nil => rfl
    | cons x v =>
      have := congrArg List.length h
      have hwl : 0 < w.length := List.length_pos_iff.2 hw
      simp only [List.length_append, List.length_cons, List.length_nil] at this
      omega⟩
theorem clean_take (n : Nat) : Clean (takeR n) := ⟨fun b x t h => by
  unfold takeR at h
  by_cases hn : b.length < n
  · rw [if_pos hn] at h; cases h
  · rw [if_neg hn] at h
    injection h with h; injection h with h1 h2
    subst h1 h2
    have hl : (b.take n).length = n := by rw [List.length_take]; omega
    refine ⟨b.take n, (List.take_append_drop n b).symm, fun t' => ?_, fun v w h hw => ?_⟩
    · unfold takeR
      rw [if_neg (by rw [List.length_append]; omega), List.take_append_of_le_length (by omega), List.take_of_length_le (by omega), List.drop_append_of_le_length (by omega), List.drop_of_length_le (by omega), List.nil_append]
    · have hwl : 0 < w.length := List.length_pos_iff.2 hw
      have := congrArg List.length h
      rw [List.length_append, hl] at this
      unfold takeR
      rw [if_pos (by omega)]⟩
theorem clean_bind {p : Rd α} {f : α → Rd β} (hp : Clean p) (hf : ∀ x, Clean (f x)) : Clean (bindR p f) := ⟨fun b y t h => by
  obtain ⟨x, t1, h1, h2⟩ := bindR_ok h
  obtain ⟨u1, e1, g1, k1⟩ := hp.cut b x t1 h1
  obtain ⟨u2, e2, g2, k2⟩ := (hf x).cut t1 y t h2
  refine ⟨u1 ++ u2, by rw [e1, e2, List.append_assoc], fun t' => ?_, fun v w h hw => ?_⟩
  · rw [List.append_assoc, bindR_at (g1 _), g2]
  · rcases List.append_eq_append_iff.1 h with ⟨a, h3, h4⟩ | ⟨a, h3, h4⟩
    · rw [h3, bindR_at (g1 a)]
      exact k2 a w h4 hw
    · by_cases ha : a = []
      · subst ha
        rw [List.append_nil] at h3
        rw [List.nil_append] at h4
        have h5 := bindR_at (f := f) (g1 [])
        rw [List.append_nil, h3] at h5
        rw [h5]
        exact k2 [] w (by rw [h4]; rfl) hw
      · rw [bindR_err (k1 v a h3 ha)]⟩
/-- what was read stands at the beginning; and any two things that begin alike are one -/
theorem Clean.apart {p : Rd α} (hp : Clean p) {b1 b2 t : Bs} {x y : α} (h1 : p b1 = .ok (x, [])) (h2 : p b2 = .ok (y, [])) (h : b2 = b1 ++ t) : x = y ∧ b1 = b2 := by
  obtain ⟨u, e, g, _⟩ := hp.cut b1 x [] h1
  rw [List.append_nil] at e
  subst e
  have := g t
  rw [← h, h2] at this
  injection this with this
  injection this with h3 h4
  subst h4
  rw [List.append_nil] at h
  exact ⟨h3.symm, h.symm⟩
theorem Clean.short {p : Rd α} (hp : Clean p) {b : Bs} {x : α} (h : p b = .ok (x, [])) (hb : b ≠ []) : p b.dropLast = .error 2 := by
  obtain ⟨u, e, _, k⟩ := hp.cut b x [] h
  rw [List.append_nil] at e
  subst e
  exact k b.dropLast [b.getLast hb] (List.dropLast_concat_getLast hb).symm (by simp)
end

/-! numbers -/
/-- a number's bytes -/
def numB (n : Nat) : Bs := if n < 128 then [UInt8.ofNat n] else UInt8.ofNat (n % 128 + 128) :: numB (n / 128)
termination_by n
decreasing_by omega
theorem numB_low {n : Nat} (h : n < 128) : numB n = [UInt8.ofNat n] := by rw [numB, if_pos h]
theorem numB_high {n : Nat} (h : ¬ n < 128) : numB n = UInt8.ofNat (n % 128 + 128) :: numB (n / 128) := by rw [numB, if_neg h]
/-- byte i of a number on, of which acc was read -/
def gotR : Nat → Nat → Bs → Except Nat (Nat × Bs)
  | _, _, [] => .error 2
  | i, acc, c :: t => if 8 < i ∨ (0 < i ∧ c = 0) then .error 3 else
      if c.toNat < 128 then (if 4611686018427387904 < acc + c.toNat * 128 ^ i then .error 3 else .ok (acc + c.toNat * 128 ^ i, t))
      else gotR (i + 1) (acc + c.toNat % 128 * 128 ^ i) t
def numR : Rd Nat := gotR 0 0
theorem ofNat_toNat8 {n : Nat} (h : n < 256) : (UInt8.ofNat n).toNat = n := by rw [UInt8.toNat_ofNat']; exact Nat.mod_eq_of_lt h
theorem toNat_ofNat8 (c : UInt8) : UInt8.ofNat c.toNat = c := by simp
theorem c8_lt (c : UInt8) : c.toNat < 256 := c.toNat_lt
theorem got_back : ∀ (b : Bs) (i acc n : Nat) (t : Bs), gotR i acc b = .ok (n, t) → ∃ m, n = acc + m * 128 ^ i ∧ b = numB m ++ t ∧ (0 < i → 0 < m) ∧ n ≤ 4611686018427387904 := by
  intro b
  induction b with
  | nil => intro i acc n t h; simp [gotR] at h
  | cons c s ih =>
    intro i acc n t h
    rw [gotR] at h
    by_cases h1 : 8 < i ∨ (0 < i ∧ c = 0)
    · rw [if_pos h1] at h; cases h
    · rw [if_neg h1] at h
      have hc := c8_lt c
      by_cases h2 : c.toNat < 128
      · rw [if_pos h2] at h
        by_cases h3 : 4611686018427387904 < acc + c.toNat * 128 ^ i
        · rw [if_pos h3] at h; cases h
        · rw [if_neg h3] at h
          injection h with h; injection h with h4 h5
          subst h4 h5
          refine ⟨c.toNat, rfl, ?_, fun hi => ?_, by omega⟩
          · rw [numB_low h2, toNat_ofNat8]; rfl
          · rcases Nat.eq_zero_or_pos c.toNat with h0 | h0
            · exact absurd (.inr ⟨hi, by rw [← toNat_ofNat8 c, h0]; rfl⟩) h1
            · exact h0
      · rw [if_neg h2] at h
        obtain ⟨m, e1, e2, e3, e4⟩ := ih _ _ _ _ h
        have hm := e3 (by omega)
        refine ⟨c.toNat % 128 + 128 * m, ?_, ?_, fun _ => by omega, e4⟩
        · rw [e1, Nat.pow_succ, Nat.add_mul, Nat.mul_comm (128 ^ i) 128, ← Nat.mul_assoc, Nat.mul_comm m 128]; omega
        · rw [numB_high (by omega), show (c.toNat % 128 + 128 * m) % 128 + 128 = c.toNat by omega, show (c.toNat % 128 + 128 * m) / 128 = m by omega, toNat_ofNat8, e2]; rfl
theorem got_put : ∀ (m i acc : Nat) (t : Bs), acc + m * 128 ^ i ≤ 4611686018427387904 → (0 < i → 0 < m) → gotR i acc (numB m ++ t) = .ok (acc + m * 128 ^ i, t) := by
  intro m
  induction m using Nat.strongRecOn with
  | _ m ih =>
    intro i acc t hb hm
    have hi8 : ¬ 8 < i := by
      intro h8
      have h1 := hm (by omega)
      have h2 : 128 ^ 9 ≤ 128 ^ i := Nat.pow_le_pow_right (by omega) (by omega)
      have h3 : 1 * 128 ^ i ≤ m * 128 ^ i := Nat.mul_le_mul_right _ h1
      have h4 : (128 : Nat) ^ 9 = 9223372036854775808 := by decide
      omega
    by_cases h : m < 128
    · rw [numB_low h]
      show gotR i acc (UInt8.ofNat m :: t) = _
      have e : (UInt8.ofNat m).toNat = m := ofNat_toNat8 (by omega)
      rw [gotR, if_neg (by
        rintro (h1 | ⟨h1, h2⟩)
        · exact hi8 h1
        · have := hm h1
          have h3 := congrArg UInt8.toNat h2
          rw [e] at h3
          have : m = 0 := h3
          omega), e, if_pos h, if_neg (by omega)]
    · rw [numB_high h]
      show gotR i acc (UInt8.ofNat (m % 128 + 128) :: (numB (m / 128) ++ t)) = _
      have e : (UInt8.ofNat (m % 128 + 128)).toNat = m % 128 + 128 := ofNat_toNat8 (by omega)
      have hp : acc + (m % 128 + 128) % 128 * 128 ^ i + m / 128 * 128 ^ (i + 1) = acc + m * 128 ^ i := by
        have : m * 128 ^ i = m % 128 * 128 ^ i + m / 128 * (128 * 128 ^ i) := by
          rw [← Nat.mul_assoc, ← Nat.add_mul]; congr 1; omega
        rw [Nat.pow_succ, Nat.mul_comm (128 ^ i) 128, show (m % 128 + 128) % 128 = m % 128 by omega]
        omega
      rw [gotR, if_neg (by
        rintro (h1 | ⟨h1, h2⟩)
        · exact hi8 h1
        · have h3 := congrArg UInt8.toNat h2
          rw [e] at h3
          have : m % 128 + 128 = 0 := h3
          omega), e, if_neg (by omega), ih (m / 128) (by omega) (i + 1) _ t (by rw [hp]; exact hb) (fun _ => by omega), hp]
theorem num_back {b t : Bs} {n : Nat} (h : numR b = .ok (n, t)) : b = numB n ++ t ∧ n ≤ 4611686018427387904 := by
  obtain ⟨m, e1, e2, _, e4⟩ := got_back b 0 0 n t h
  have : n = m := by rw [e1]; simp
  subst this
  exact ⟨e2, e4⟩
theorem num_put {n : Nat} (h : n ≤ 4611686018427387904) (t : Bs) : numR (numB n ++ t) = .ok (n, t) := by
  have := got_put n 0 0 t (by simpa using h) (fun h => absurd h (by omega))
  simpa [numR] using this
theorem got_clean : ∀ (b : Bs) (i acc n : Nat) (t : Bs), gotR i acc b = .ok (n, t) → ∃ u, b = u ++ t ∧ (∀ t', gotR i acc (u ++ t') = .ok (n, t')) ∧ ∀ v w, u = v ++ w → w ≠ [] → gotR i acc v = .error 2 := by
  intro b
  induction b with
  | nil => intro i acc n t h; simp [gotR] at h
  | cons c s ih =>
    intro i acc n t h
    rw [gotR] at h
    by_cases h1 : 8 < i ∨ (0 < i ∧ c = 0)
    · rw [if_pos h1] at h; cases h
    · rw [if_neg h1] at h
      by_cases h2 : c.toNat < 128
      · rw [if_pos h2] at h
        by_cases h3 : 4611686018427387904 < acc + c.toNat * 128 ^ i
        · rw [if_pos h3] at h; cases h
        · rw [if_neg h3] at h
          injection h with h; injection h with h4 h5
          subst h4 h5
          refine ⟨[c], rfl, fun t' => ?_, fun v w h hw => ?_⟩
          · show gotR i acc (c :: t') = _
            rw [gotR, if_neg h1, if_pos h2, if_neg h3]
          · cases v with
            | nil => rfl
            | cons x v =>
              have := congrArg List.length h
              have hwl : 0 < w.length := List.length_pos_iff.2 hw
              simp only [List.length_append, List.length_cons, List.length_nil] at this
              omega
      · rw [if_neg h2] at h
        obtain ⟨u, e, g, k⟩ := ih _ _ _ _ h
        refine ⟨c :: u, by rw [e]; rfl, fun t' => ?_, fun v w h hw => ?_⟩
        · show gotR i acc (c :: (u ++ t')) = _
          rw [gotR, if_neg h1, if_neg h2, g]
        · cases v with
          | nil => rfl
          | cons x v =>
            injection h with h3 h4
            subst h3
            rw [gotR, if_neg h1, if_neg h2]
            exact k v w h4 hw
theorem clean_num : Clean numR := ⟨fun b n t h => got_clean b 0 0 n t h⟩
theorem numB_len {n : Nat} (h : n ≤ 4611686018427387904) : (numB n).length ≤ 9 := by
  have key : ∀ k n, n < 128 ^ k → 0 < k → (numB n).length ≤ k := by
    intro k
    induction k with
    | zero => intro n _ h; omega
    | succ k ih =>
      intro n hn _
      by_cases hl : n < 128
      · rw [numB_low hl]; simp
      · rw [numB_high hl]
        have hk : 0 < k := by
          rcases Nat.eq_zero_or_pos k with h0 | h0
          · subst h0; simp at hn; omega
          · exact h0
        have := ih (n / 128) (by rw [Nat.pow_succ] at hn; exact Nat.div_lt_of_lt_mul (by omega)) hk
        simp; omega
  exact key 9 n (by have : (128 : Nat) ^ 9 = 9223372036854775808 := by decide
                    omega) (by omega)

end Go.Proofs.Ytlpogkcfjbabaaa
