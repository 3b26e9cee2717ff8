/- Plain facts on sets of numbers from 0 to 255 kept as rising lists; no condition. -/
namespace Go.Proofs.Ytpaabeadiokgoaa

/-- place i of l: in range, and above the place before it -/
def okAt (l : List Int) (i : Nat) : Prop := 0 ≤ l.getD i 0 ∧ l.getD i 0 ≤ 255 ∧ (0 < i → l.getD (i - 1) 0 < l.getD i 0)
instance (l : List Int) (i : Nat) : Decidable (okAt l i) := by unfold okAt; infer_instance
def rightB (l : List Int) : Bool := decide (∀ i, i < l.length → okAt l i)

theorem rightB_iff (l : List Int) : rightB l = true ↔ ∀ i, i < l.length → okAt l i := by simp [rightB]
theorem rightB_false (l : List Int) (i : Nat) (hi : i < l.length) (h : ¬ okAt l i) : rightB l = false := by
  rw [← Bool.not_eq_true, rightB_iff]; exact fun H => h (H i hi)

theorem okAt_cons (x : Int) (t : List Int) (i : Nat) (hi : 0 < i) : okAt (x :: t) (i + 1) ↔ okAt t i := by
  unfold okAt
  have e : i + 1 - 1 = (i - 1) + 1 := by omega
  rw [e, List.getD_cons_succ, List.getD_cons_succ]
  simp [hi]

theorem right_tail {x : Int} {t : List Int} (h : rightB (x :: t) = true) : rightB t = true := by
  rw [rightB_iff] at h ⊢
  intro i hi
  rcases Nat.eq_zero_or_pos i with rfl | hp
  · have h1 := h 1 (by simp; omega)
    have h0 := h 0 (by simp)
    unfold okAt at h1 h0 ⊢
    simp at h1 h0 ⊢
    omega
  · exact (okAt_cons x t i hp).1 (h (i + 1) (by simp; omega))

theorem right_head {x : Int} {t : List Int} (h : rightB (x :: t) = true) : 0 ≤ x ∧ x ≤ 255 := by
  rw [rightB_iff] at h
  have h0 := h 0 (by simp)
  unfold okAt at h0; simp at h0; omega

theorem right_below {x : Int} {t : List Int} (h : rightB (x :: t) = true) : ∀ y ∈ t, x < y := by
  induction t generalizing x with
  | nil => intro y hy; cases hy
  | cons z t ih =>
    have hz : x < z := by
      rw [rightB_iff] at h
      have h1 := h 1 (by simp)
      unfold okAt at h1; simp at h1; omega
    intro y hy
    rcases List.mem_cons.1 hy with rfl | hy
    · exact hz
    · have := ih (right_tail h) y hy
      omega

theorem right_cons {x : Int} {t : List Int} (hx : 0 ≤ x ∧ x ≤ 255) (ht : rightB t = true) (hb : ∀ y ∈ t, x < y) : rightB (x :: t) = true := by
  rw [rightB_iff] at ht ⊢
  intro i hi
  rcases Nat.eq_zero_or_pos i with rfl | hp
  · unfold okAt; simp; exact hx
  · obtain ⟨j, rfl⟩ : ∃ j, i = j + 1 := ⟨i - 1, by omega⟩
    have hj : j < t.length := by simpa using hi
    have hk := ht j hj
    rcases Nat.eq_zero_or_pos j with rfl | hjp
    · have := hb (t.getD 0 0) (by simp [List.getD, hj])
      unfold okAt at hk ⊢
      simp at hk this ⊢
      omega
    · exact (okAt_cons x t j hjp).2 hk

theorem right_mem {l : List Int} (h : rightB l = true) : ∀ n ∈ l, 0 ≤ n ∧ n ≤ 255 := by
  induction l with
  | nil => intro n hn; cases hn
  | cons x t ih =>
    intro n hn
    rcases List.mem_cons.1 hn with rfl | hn
    · exact right_head h
    · exact ih (right_tail h) n hn

/-- two sets with the same numbers are one -/
theorem right_ext {a b : List Int} (ha : rightB a = true) (hb : rightB b = true) (h : ∀ n, n ∈ a ↔ n ∈ b) : a = b := by
  induction a generalizing b with
  | nil =>
    cases b with
    | nil => rfl
    | cons y t => exact absurd ((h y).2 (by simp)) (by simp)
  | cons x s ih =>
    cases b with
    | nil => exact absurd ((h x).1 (by simp)) (by simp)
    | cons y t =>
      have hxy : x = y := by
        have h1 := (h x).1 (by simp)
        have h2 := (h y).2 (by simp)
        rcases List.mem_cons.1 h1 with e | e
        · exact e
        · rcases List.mem_cons.1 h2 with e' | e'
          · exact e'.symm
          · have := right_below hb x e; have := right_below ha y e'; omega
      subst hxy
      rw [ih (right_tail ha) (right_tail hb) fun n => ?_]
      constructor
      · intro hn
        rcases List.mem_cons.1 ((h n).1 (List.mem_cons_of_mem _ hn)) with e | e
        · subst e; have := right_below ha n hn; omega
        · exact e
      · intro hn
        rcases List.mem_cons.1 ((h n).2 (List.mem_cons_of_mem _ hn)) with e | e
        · subst e; have := right_below hb n hn; omega
        · exact e

/-- the numbers from m up to below m + k that p says yes to -/
def pickN (p : Int → Bool) : Nat → Nat → List Int
  | _, 0 => []
  | m, k + 1 => if p m then (m : Int) :: pickN p (m + 1) k else pickN p (m + 1) k
def pickL (p : Int → Bool) : List Int := pickN p 0 256

theorem mem_pickN (p : Int → Bool) (n : Int) : ∀ (k m : Nat), n ∈ pickN p m k ↔ ((m : Int) ≤ n ∧ n < m + k ∧ p n = true)
  | 0, m => by simp [pickN]; omega
  | k + 1, m => by
    have ih := mem_pickN p n k (m + 1)
    unfold pickN
    by_cases hn : n = m
    · subst hn
      by_cases hp : p m = true
      · simp [hp]; omega
      · simp [hp, ih]
    · split
      · rw [List.mem_cons, ih]
        constructor
        · rintro (e | e)
          · exact absurd e hn
          · refine ⟨by omega, by omega, e.2.2⟩
        · intro e; right; exact ⟨by omega, by omega, e.2.2⟩
      · rw [ih]
        constructor
        · intro e; exact ⟨by omega, by omega, e.2.2⟩
        · intro e; exact ⟨by omega, by omega, e.2.2⟩

theorem mem_pickL (p : Int → Bool) (n : Int) : n ∈ pickL p ↔ (0 ≤ n ∧ n ≤ 255 ∧ p n = true) := by
  unfold pickL
  rw [mem_pickN]
  constructor
  · intro h; exact ⟨by omega, by omega, h.2.2⟩
  · intro h; exact ⟨by omega, by omega, h.2.2⟩

theorem right_pickN (p : Int → Bool) : ∀ (k m : Nat), m + k ≤ 256 → rightB (pickN p m k) = true
  | 0, m, _ => by simp [pickN, rightB]
  | k + 1, m, h => by
    have ih := right_pickN p k (m + 1) (by omega)
    unfold pickN
    split
    · refine right_cons (by omega) ih fun y hy => ?_
      have := (mem_pickN p y k (m + 1)).1 hy
      omega
    · exact ih

theorem right_pickL (p : Int → Bool) : rightB (pickL p) = true := right_pickN p 256 0 (by omega)

theorem length_pickN (p : Int → Bool) : ∀ (k m : Nat), (pickN p m k).length ≤ k
  | 0, _ => by simp [pickN]
  | k + 1, m => by
    have ih := length_pickN p k (m + 1)
    unfold pickN
    split
    · simp; omega
    · omega
theorem length_pickL (p : Int → Bool) : (pickL p).length ≤ 256 := length_pickN p 256 0

theorem pickN_snoc (p : Int → Bool) : ∀ (k m : Nat), pickN p m (k + 1) = pickN p m k ++ (if p ((m + k : Nat) : Int) then [((m + k : Nat) : Int)] else [])
  | 0, m => by simp [pickN]
  | k + 1, m => by
    have ih := pickN_snoc p k (m + 1)
    rw [pickN, ih]
    conv => rhs; rw [pickN]
    have e : m + 1 + k = m + (k + 1) := by omega
    rw [e]
    split <;> simp

theorem pickL_congr {p q : Int → Bool} (h : ∀ n, 0 ≤ n → n ≤ 255 → p n = q n) : pickL p = pickL q :=
  right_ext (right_pickL p) (right_pickL q) fun n => by
    rw [mem_pickL, mem_pickL]
    constructor
    · intro e; exact ⟨e.1, e.2.1, by rw [← h n e.1 e.2.1]; exact e.2.2⟩
    · intro e; exact ⟨e.1, e.2.1, by rw [h n e.1 e.2.1]; exact e.2.2⟩

theorem right_pick {l : List Int} (h : rightB l = true) : pickL (fun n => l.contains n) = l :=
  right_ext (right_pickL _) h fun n => by
    rw [mem_pickL, List.contains_iff_mem]
    constructor
    · intro e; exact e.2.2
    · intro e; have := right_mem h n e; exact ⟨this.1, this.2, e⟩

def inB (xs : List Int) (v : Int) : Bool := xs.contains v

/-- what the document says of two sets: 0 either, 1 both, 2 the first alone -/
def keeps (how : Nat) (a b : List Int) (n : Int) : Bool :=
  if how = 0 then a.contains n || b.contains n else if how = 1 then a.contains n && b.contains n else a.contains n && !b.contains n
def whichL (how : Nat) (a b : List Int) : List Int := if rightB a && rightB b then pickL (keeps how a b) else []
def joinL (a b : List Int) : List Int := whichL 0 a b
def meetL (a b : List Int) : List Int := whichL 1 a b
def lessL (a b : List Int) : List Int := whichL 2 a b
def hasB (a : List Int) (n : Int) : Bool := rightB a && a.contains n
def partB (a b : List Int) : Bool := rightB a && rightB b && a.all fun n => b.contains n
def apartB (a b : List Int) : Bool := rightB a && rightB b && a.all fun n => !b.contains n

theorem right_whichL (how : Nat) (a b : List Int) : rightB (whichL how a b) = true := by
  unfold whichL; split
  · exact right_pickL _
  · simp [rightB]
theorem length_whichL (how : Nat) (a b : List Int) : (whichL how a b).length ≤ 256 := by
  unfold whichL; split
  · exact length_pickL _
  · simp

theorem whichL_wrong {how : Nat} {a b : List Int} (h : (rightB a && rightB b) = false) : whichL how a b = [] := by
  unfold whichL; rw [h]; rfl

theorem mem_joinL {a b : List Int} (ha : rightB a = true) (hb : rightB b = true) (n : Int) : n ∈ joinL a b ↔ n ∈ a ∨ n ∈ b := by
  unfold joinL whichL
  rw [ha, hb]
  simp only [Bool.and_self, if_true, mem_pickL, keeps, Bool.or_eq_true, List.contains_iff_mem]
  constructor
  · exact fun h => h.2.2
  · intro h
    have : 0 ≤ n ∧ n ≤ 255 := by exact h.elim (right_mem ha n) (right_mem hb n)
    exact ⟨this.1, this.2, h⟩
theorem mem_meetL {a b : List Int} (ha : rightB a = true) (hb : rightB b = true) (n : Int) : n ∈ meetL a b ↔ n ∈ a ∧ n ∈ b := by
  unfold meetL whichL
  rw [ha, hb]
  simp only [Bool.and_self, if_true, mem_pickL, keeps]
  simp only [Nat.one_ne_zero, if_false, Bool.and_eq_true, List.contains_iff_mem]
  constructor
  · exact fun h => h.2.2
  · intro h; have := right_mem ha n h.1; exact ⟨this.1, this.2, h⟩
theorem mem_lessL {a b : List Int} (ha : rightB a = true) (hb : rightB b = true) (n : Int) : n ∈ lessL a b ↔ n ∈ a ∧ n ∉ b := by
  unfold lessL whichL
  rw [ha, hb]
  simp only [Bool.and_self, if_true, mem_pickL, keeps]
  have e2 : ¬ (2 : Nat) = 0 := by omega
  have e1 : ¬ (2 : Nat) = 1 := by omega
  simp only [e2, e1, if_false, Bool.and_eq_true, List.contains_iff_mem, Bool.not_eq_true', ← Bool.not_eq_true]
  constructor
  · exact fun h => h.2.2
  · intro h; have := right_mem ha n h.1; exact ⟨this.1, this.2, h⟩

theorem right_joinL (a b : List Int) : rightB (joinL a b) = true := right_whichL 0 a b
theorem right_meetL (a b : List Int) : rightB (meetL a b) = true := right_whichL 1 a b
theorem right_lessL (a b : List Int) : rightB (lessL a b) = true := right_whichL 2 a b

/-- P1.1: Part is told by the count of the Meet -/
theorem length_le_of_sub {a b : List Int} (ha : rightB a = true) (hb : rightB b = true) (h : ∀ n ∈ a, n ∈ b) : a.length ≤ b.length := by
  induction a generalizing b with
  | nil => simp
  | cons x s ih =>
    induction b with
    | nil => exact absurd (h x (by simp)) (by simp)
    | cons y t iht =>
      by_cases hxy : x = y
      · subst hxy
        have := ih (right_tail ha) (right_tail hb) fun n hn => by
          rcases List.mem_cons.1 (h n (List.mem_cons_of_mem _ hn)) with e | e
          · subst e; have := right_below ha n hn; omega
          · exact e
        simp; omega
      · have hyx : y < x := by
          rcases List.mem_cons.1 (h x (by simp)) with e | e
          · exact absurd e hxy
          · exact right_below hb x e
        have := iht (right_tail hb) fun n hn => by
          rcases List.mem_cons.1 (h n hn) with e | e
          · subst e
            rcases List.mem_cons.1 hn with e' | e'
            · exact absurd e'.symm hxy
            · have := right_below ha n e'; omega
          · exact e
        simp at this ⊢; omega

theorem eq_of_sub_length {a b : List Int} (ha : rightB a = true) (hb : rightB b = true) (h : ∀ n ∈ a, n ∈ b) (hl : b.length ≤ a.length) : a = b := by
  induction a generalizing b with
  | nil => exact (List.eq_nil_of_length_eq_zero (by simpa using hl)).symm
  | cons x s ih =>
    cases b with
    | nil => exact absurd (h x (by simp)) (by simp)
    | cons y t =>
      by_cases hxy : x = y
      · subst hxy
        rw [ih (right_tail ha) (right_tail hb) (fun n hn => by
          rcases List.mem_cons.1 (h n (List.mem_cons_of_mem _ hn)) with e | e
          · subst e; have := right_below ha n hn; omega
          · exact e) (by simpa using hl)]
      · have hyx : y < x := by
          rcases List.mem_cons.1 (h x (by simp)) with e | e
          · exact absurd e hxy
          · exact right_below hb x e
        have := length_le_of_sub ha (right_tail hb) fun n hn => by
          rcases List.mem_cons.1 (h n hn) with e | e
          · subst e
            rcases List.mem_cons.1 hn with e' | e'
            · exact absurd e'.symm hxy
            · have := right_below ha n e'; omega
          · exact e
        simp at this hl; omega

theorem part_length (a b : List Int) : partB a b = (rightB a && rightB b && decide ((meetL a b).length = a.length)) := by
  unfold partB
  by_cases ha : rightB a = true
  · by_cases hb : rightB b = true
    · rw [ha, hb]
      simp only [Bool.and_self, Bool.true_and]
      rw [Bool.eq_iff_iff]
      simp only [List.all_eq_true, List.contains_iff_mem, decide_eq_true_eq]
      constructor
      · intro h
        have : meetL a b = a := right_ext (right_meetL a b) ha fun n => by
          rw [mem_meetL ha hb]; exact ⟨fun e => e.1, fun e => ⟨e, h n e⟩⟩
        rw [this]
      · intro h n hn
        have e := eq_of_sub_length (right_meetL a b) ha (fun n hn => ((mem_meetL ha hb n).1 hn).1) (by omega)
        rw [← e] at hn
        exact ((mem_meetL ha hb n).1 hn).2
    · simp [hb]
  · simp [ha]
theorem apart_length (a b : List Int) : apartB a b = (rightB a && rightB b && decide ((meetL a b).length = 0)) := by
  unfold apartB
  by_cases ha : rightB a = true
  · by_cases hb : rightB b = true
    · rw [ha, hb]
      simp only [Bool.and_self, Bool.true_and]
      rw [Bool.eq_iff_iff]
      simp only [List.all_eq_true, Bool.not_eq_true', ← Bool.not_eq_true, List.contains_iff_mem, decide_eq_true_eq]
      constructor
      · intro h
        have : meetL a b = [] := List.eq_nil_iff_forall_not_mem.2 fun n hn => h n ((mem_meetL ha hb n).1 hn).1 ((mem_meetL ha hb n).1 hn).2
        rw [this]; rfl
      · intro h n hn hnb
        have e := List.eq_nil_of_length_eq_zero h
        have := (mem_meetL ha hb n).2 ⟨hn, hnb⟩
        rw [e] at this; cases this
    · simp [hb]
  · simp [ha]

end Go.Proofs.Ytpaabeadiokgoaa
