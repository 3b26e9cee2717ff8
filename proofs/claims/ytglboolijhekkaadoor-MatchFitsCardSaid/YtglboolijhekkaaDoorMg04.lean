/- Which nodes suit what a job asks for, and what it gets there, in plain words. No program's text is walked here. What a job gets: how much of each kind, in how many nodes; more free things, other tags, whole nodes. No program's text is walked here. Plain words for layer 5's walks: strings that are tags, where a graph breaks off, a number appended. What set.packBoth answers: of two lists of int that are sets the words of both, else none. What set.Join, Meet, Less, Has, Part and Apart answer: of two lists of int, what the document says of sets; the table of trailing zeros as Go's text lays it. -/
import Derived.Test.YtglboolijhekkaaDoorMg03
import Derived.Test.YtglboolijhekkaaDoorMg02
import Derived.Test.YtglboolijhekkaaDoorMg01
import Derived.Deep.DeepCutAuto
namespace Go.Proofs.YtglboolijhekkaaDoor

/-- how many of the first m things are under thing k, free, and of this kind -/
def frP (g : Gr) (F : List Int) (c : Int) (k x : Nat) : Bool := overG g k x && (hasB F (x : Int) && gk g x == c)
def frN (g : Gr) (F : List Int) (c : Int) (k m : Nat) : Nat := cntP (frP g F c k) m
/-- does thing k suit? -/
def suitP (g : Gr) (F : List Int) (s : Sp) (k : Nat) : Bool :=
  (gk g k == 2 && hasB F (k : Int)) && (decide (s.tag.size = 0 ∨ s.tag = gt g k) && (decide (s.cores ≤ frN g F 3 k g.length ∧ s.gpus ≤ frN g F 4 k g.length) && (!s.whole || decide (∀ x, x < g.length → overG g k x = true → hasB F (x : Int) = true))))
/-- is thing x among what it gets in node k? -/
def getP (g : Gr) (F : List Int) (s : Sp) (k x : Nat) : Bool :=
  overG g k x && (s.whole || (hasB F (x : Int) && ((gk g x == 3 && decide ((frN g F 3 k (x + 1) : Int) ≤ s.cores)) || (gk g x == 4 && decide ((frN g F 4 k (x + 1) : Int) ≤ s.gpus)))))
def cntS (g : Gr) (F : List Int) (s : Sp) (m : Nat) : Nat := cntP (suitP g F s) m
def selP (g : Gr) (F : List Int) (s : Sp) (k : Nat) : Bool := suitP g F s k && decide ((cntS g F s k : Int) < s.nodes)
def findP (g : Gr) (F : List Int) (s : Sp) (x : Nat) : Bool := decide (∃ k, k < g.length ∧ selP g F s k = true ∧ getP g F s k x = true)
def mayB (g : Gr) (F : List Int) (s : Sp) : Bool := rightG g && (rightB F && rightS s)
def hadB (g : Gr) (F : List Int) (s : Sp) : Bool := mayB g F s && decide (s.nodes ≤ cntS g F s g.length)
def findL (g : Gr) (F : List Int) (s : Sp) : List Int := if hadB g F s = true then numsF (findP g F s) g.length else []
def suitsL (g : Gr) (F : List Int) (s : Sp) (a : Int) : Bool := mayB g F s && (decide (0 ≤ a ∧ a < g.length) && suitP g F s a.toNat)
def manyL (g : Gr) (F : List Int) (s : Sp) : Int := if mayB g F s = true then (cntS g F s g.length : Int) else 0
def allN (n : Nat) : List Int := numsF (fun _ => true) n
def couldL (g : Gr) (s : Sp) : Bool := hadB g (allN g.length) s

theorem mayB_is {g : Gr} {F : List Int} {s : Sp} (h : mayB g F s = true) : rightG g = true ∧ rightB F = true ∧ rightS s = true := by
  unfold mayB at h
  rwa [Bool.and_eq_true, Bool.and_eq_true] at h
theorem hadB_is {g : Gr} {F : List Int} {s : Sp} : hadB g F s = true ↔ mayB g F s = true ∧ s.nodes ≤ cntS g F s g.length := by
  unfold hadB
  rw [Bool.and_eq_true, decide_eq_true_eq]
theorem suitP_is {g : Gr} {F : List Int} {s : Sp} {k : Nat} : suitP g F s k = true ↔ gk g k = 2 ∧ hasB F (k : Int) = true ∧ (s.tag.size = 0 ∨ s.tag = gt g k) ∧ (s.cores ≤ frN g F 3 k g.length ∧ s.gpus ≤ frN g F 4 k g.length) ∧ (s.whole = true → ∀ x, x < g.length → overG g k x = true → hasB F (x : Int) = true) := by
  unfold suitP
  rw [Bool.and_eq_true, Bool.and_eq_true, Bool.and_eq_true, Bool.and_eq_true, beq_iff_eq, decide_eq_true_eq, decide_eq_true_eq, Bool.or_eq_true, decide_eq_true_eq]
  constructor
  · rintro ⟨⟨h1, h2⟩, h3, h4, h5⟩
    refine ⟨h1, h2, h3, h4, fun hw => ?_⟩
    rcases h5 with h5 | h5
    · rw [hw] at h5; cases h5
    · exact h5
  · rintro ⟨h1, h2, h3, h4, h5⟩
    refine ⟨⟨h1, h2⟩, h3, h4, ?_⟩
    cases hw : s.whole with
    | false => exact .inl rfl
    | true => exact .inr (h5 hw)
theorem selP_is {g : Gr} {F : List Int} {s : Sp} {k : Nat} : selP g F s k = true ↔ suitP g F s k = true ∧ (cntS g F s k : Int) < s.nodes := by
  unfold selP
  rw [Bool.and_eq_true, decide_eq_true_eq]
theorem findP_is {g : Gr} {F : List Int} {s : Sp} {x : Nat} : findP g F s x = true ↔ ∃ k, k < g.length ∧ selP g F s k = true ∧ getP g F s k x = true := by
  unfold findP
  rw [decide_eq_true_eq]

/-! Counting -/
/-- the first c of those that are counted, each counted in -/
theorem cntP_first (p : Nat → Bool) (c : Nat) : ∀ m, cntP (fun x => p x && decide (cntP p (x + 1) ≤ c)) m = min c (cntP p m)
  | 0 => by show 0 = min c 0; omega
  | m + 1 => by
    have ih := cntP_first p c m
    have h1 := cntP_succ p m
    rw [cntP_succ, ih]
    cases hp : p m with
    | true =>
      rw [if_pos hp] at h1
      by_cases hc : cntP p (m + 1) ≤ c
      · rw [if_pos (by simpa using hc)]; omega
      · rw [if_neg (by simpa using hc)]; omega
    | false =>
      rw [if_neg (by rw [hp]; simp)] at h1
      rw [if_neg (by simp)]; omega
/-- the first c of those that are counted, by how many stand ahead -/
theorem cntP_ahead (p : Nat → Bool) (c : Nat) : ∀ m, cntP (fun x => p x && decide (cntP p x < c)) m = min c (cntP p m)
  | 0 => by show 0 = min c 0; omega
  | m + 1 => by
    have ih := cntP_ahead p c m
    have h1 := cntP_succ p m
    rw [cntP_succ, ih]
    cases hp : p m with
    | true =>
      rw [if_pos hp] at h1
      by_cases hc : cntP p m < c
      · rw [if_pos (by simpa using hc)]; omega
      · rw [if_neg (by simpa using hc)]; omega
    | false =>
      rw [if_neg (by rw [hp]; simp)] at h1
      rw [if_neg (by simp)]; omega
theorem cntP_mono {p q : Nat → Bool} : ∀ {m : Nat}, (∀ k, k < m → p k = true → q k = true) → cntP p m ≤ cntP q m
  | 0, _ => Nat.le_refl _
  | m + 1, h => by
    have ih := cntP_mono (m := m) (fun k hk => h k (by omega))
    rw [cntP_succ, cntP_succ]
    by_cases hp : p m = true
    · rw [if_pos hp, if_pos (h m (by omega) hp)]; omega
    · rw [if_neg hp]; split <;> omega
theorem cntP_pos {p : Nat → Bool} {k : Nat} : ∀ {m : Nat}, k < m → p k = true → 0 < cntP p m
  | 0, h, _ => absurd h (by omega)
  | m + 1, h, hp => by
    rw [cntP_succ]
    by_cases hk : k = m
    · subst hk; rw [if_pos hp]; omega
    · have := cntP_pos (m := m) (by omega) hp
      omega
theorem cntP_steps (p : Nat → Bool) {a : Nat} : ∀ {b : Nat}, a ≤ b → cntP p a ≤ cntP p b := by
  intro b hb
  induction b with
  | zero => obtain rfl : a = 0 := by omega
            exact Nat.le_refl _
  | succ b ih =>
    by_cases h : a = b + 1
    · subst h; exact Nat.le_refl _
    · have := ih (by omega)
      rw [cntP_succ]; split <;> omega

section
variable {g : Gr} {F : List Int} {s : Sp}
/-- no thing is under two nodes -/
theorem under_one (hg : RightG g) {a b x : Nat} (hx : x < g.length) (ha : gk g a = 2) (hb : gk g b = 2) (h1 : overG g a x = true) (h2 : overG g b x = true) : a = b := by
  have hla := over_le h1
  have hlb := over_le h2
  rcases Nat.le_total a b with h | h
  · exact node_node hg (by omega) ha hb (over_chain hg x hx h1 h2 h)
  · exact (node_node hg (by omega) hb ha (over_chain hg x hx h2 h1 h)).symm
/-- what it gets is free -/
theorem get_free {k x : Nat} (hs : suitP g F s k = true) (hx : x < g.length) (hp : getP g F s k x = true) : overG g k x = true ∧ hasB F (x : Int) = true := by
  unfold getP at hp
  rw [Bool.and_eq_true, Bool.or_eq_true, Bool.and_eq_true] at hp
  refine ⟨hp.1, ?_⟩
  rcases hp.2 with h | h
  · exact (suitP_is.1 hs).2.2.2.2 h x hx hp.1
  · exact h.1
theorem sel_suit {k : Nat} (h : selP g F s k = true) : suitP g F s k = true := (selP_is.1 h).1
theorem suit_node {k : Nat} (h : suitP g F s k = true) : gk g k = 2 := (suitP_is.1 h).1
/-- of what is got, what is under a node -/
theorem find_under (hg : RightG g) {k x : Nat} (hk : gk g k = 2) (hx : x < g.length) (ho : overG g k x = true) : findP g F s x = (selP g F s k && getP g F s k x) := by
  have hkl : k < g.length := by have := over_le ho; omega
  rw [Bool.eq_iff_iff, findP_is, Bool.and_eq_true]
  constructor
  · rintro ⟨j, hj, h1, h2⟩
    have h3 := (get_free (sel_suit h1) hx h2).1
    obtain rfl := under_one hg hx (suit_node (sel_suit h1)) hk h3 ho
    exact ⟨h1, h2⟩
  · rintro ⟨h1, h2⟩
    exact ⟨k, hkl, h1, h2⟩
theorem mem_find (h : hadB g F s = true) {x : Int} : x ∈ findL g F s ↔ ∃ k : Nat, k < g.length ∧ findP g F s k = true ∧ x = k := by
  unfold findL
  rw [if_pos h, mem_numsF]
theorem findL_right (h : rightG g = true) : rightB (findL g F s) = true := by
  unfold findL
  split
  · exact numsF_right _ (rightG_is h).few
  · rfl
theorem findL_len (h : rightG g = true) : (findL g F s).length ≤ 256 := by
  unfold findL
  split
  · exact Nat.le_trans (numsF_len _ _) (rightG_is h).few
  · exact Nat.zero_le _
theorem findL_no (h : hadB g F s = false) : findL g F s = [] := by
  unfold findL
  rw [if_neg (by rw [h]; simp)]
/-- all that is got is free -/
theorem find_part (h : hadB g F s = true) : partB (findL g F s) F = true := by
  obtain ⟨h1, h2, h3⟩ := mayB_is (hadB_is.1 h).1
  rw [part_iff (findL_right h1) h2]
  intro x hx
  obtain ⟨k, hk, hp, rfl⟩ := (mem_find h).1 hx
  obtain ⟨j, hj, h4, h5⟩ := findP_is.1 hp
  have h6 := (get_free (sel_suit h4) hk h5).2
  unfold hasB at h6
  rw [Bool.and_eq_true] at h6
  simpa using h6.2
/-- here: what is got under node k -/
def hereL (g : Gr) (F : List Int) (s : Sp) (k : Nat) : List Int := if selP g F s k = true then numsF (fun x => getP g F s k x) g.length else []
theorem here_is (h : hadB g F s = true) {k : Nat} (hk : k < g.length) (h2 : gk g k = 2) : meetL (findL g F s) (underL g (k : Int)) = hereL g F s k := by
  obtain ⟨hg', hF, hs⟩ := mayB_is (hadB_is.1 h).1
  have hg := rightG_is hg'
  have hr : rightB (hereL g F s k) = true := by
    unfold hereL
    split
    · exact numsF_right _ hg.few
    · rfl
  refine right_ext (right_meetL _ _) hr fun x => ?_
  rw [mem_meetL (findL_right hg') (underL_right hg' hk), mem_find h, mem_under hg' hk]
  unfold hereL
  constructor
  · rintro ⟨⟨j, hj, hp, rfl⟩, ⟨i, hi, ho, e⟩⟩
    obtain rfl : j = i := by omega
    rw [find_under hg h2 hj ho, Bool.and_eq_true] at hp
    rw [if_pos hp.1, mem_numsF]
    exact ⟨j, hj, hp.2, rfl⟩
  · intro hx
    split at hx
    · rename_i hsel
      obtain ⟨j, hj, hp, rfl⟩ := mem_numsF.1 hx
      have ho := (get_free (sel_suit hsel) hj hp).1
      exact ⟨⟨j, hj, findP_is.2 ⟨k, hk, hsel, hp⟩, rfl⟩, ⟨j, hj, ho, rfl⟩⟩
    · cases hx
theorem here_no {k : Nat} (h : selP g F s k = false) : hereL g F s k = [] := by unfold hereL; rw [if_neg (by rw [h]; simp)]
theorem here_yes {k : Nat} (h : selP g F s k = true) : hereL g F s k = numsF (fun x => getP g F s k x) g.length := by unfold hereL; rw [if_pos h]
theorem here_right (h : rightG g = true) (k : Nat) : rightB (hereL g F s k) = true := by
  unfold hereL
  split
  · exact numsF_right _ (rightG_is h).few
  · rfl
/-- whole nodes: all that is under it -/
theorem here_whole (hg : rightG g = true) {k : Nat} (hk : k < g.length) (h : selP g F s k = true) (hw : s.whole = true) : hereL g F s k = underL g (k : Int) := by
  rw [here_yes h, underL_is hg hk]
  refine numsF_ext fun x _ => ?_
  unfold getP
  rw [hw]
  simp
/-- where a node is chosen something is got -/
theorem here_some (hg' : rightG g = true) (hs : rightS s = true) {k : Nat} (hk : k < g.length) (h : selP g F s k = true) : 0 < (hereL g F s k).length := by
  have hg := rightG_is hg'
  obtain ⟨k1, k2, k3, ⟨k4, k5⟩, k6⟩ := suitP_is.1 (sel_suit h)
  cases hw : s.whole with
  | true =>
    rw [here_whole hg' hk h hw, underL_is hg' hk, numsF_cnt]
    exact cntP_pos hk over_self
  | false =>
    rw [here_yes h, numsF_cnt]
    obtain ⟨_, _, q2, q3, q4, _, _⟩ := rightS_is hs
    have hnz : 0 < s.cores ∨ 0 < s.gpus := by
      by_cases hc : s.cores = 0
      · by_cases hp : s.gpus = 0
        · exact absurd ⟨hc, hp, hw⟩ q4
        · exact .inr (by omega)
      · exact .inl (by omega)
    have one : ∀ (c : Int) (m : Int) (_ : 0 < m) (_ : m ≤ frN g F c k g.length), ∃ x, x < g.length ∧ frP g F c k x = true ∧ (frN g F c k (x + 1) : Int) ≤ m := by
      intro c m hm0 hm
      have h1 := cntP_first (frP g F c k) m.toNat g.length
      have h2 : 0 < min m.toNat (cntP (frP g F c k) g.length) := by have : frN g F c k g.length = cntP (frP g F c k) g.length := rfl; omega
      rw [← h1] at h2
      by_cases hall : ∀ x, x < g.length → (frP g F c k x && decide (cntP (frP g F c k) (x + 1) ≤ m.toNat)) = false
      · rw [cntP_zero hall] at h2; omega
      · obtain ⟨x, hx⟩ := Classical.not_forall.1 hall
        have hxl : x < g.length := by
          rcases Nat.lt_or_ge x g.length with h | h
          · exact h
          · exact absurd (fun h' => by omega) hx
        have hx2 : (frP g F c k x && decide (cntP (frP g F c k) (x + 1) ≤ m.toNat)) = true := by
          cases hb : (frP g F c k x && decide (cntP (frP g F c k) (x + 1) ≤ m.toNat)) with
          | true => rfl
          | false => exact absurd (fun _ => hb) hx
        rw [Bool.and_eq_true, decide_eq_true_eq] at hx2
        exact ⟨x, hxl, hx2.1, by have := hx2.2; unfold frN; omega⟩
    have fin : ∀ {c : Int} {x : Nat}, x < g.length → frP g F c k x = true → ((c = 3 ∧ (frN g F 3 k (x + 1) : Int) ≤ s.cores) ∨ (c = 4 ∧ (frN g F 4 k (x + 1) : Int) ≤ s.gpus)) → 0 < cntP (fun x => getP g F s k x) g.length := by
      intro c x hx hp hc
      refine cntP_pos hx ?_
      unfold frP at hp
      rw [Bool.and_eq_true, Bool.and_eq_true, beq_iff_eq] at hp
      show getP g F s k x = true
      unfold getP
      rw [hp.1, hp.2.1, hw]
      rcases hc with ⟨rfl, hc⟩ | ⟨rfl, hc⟩
      · rw [hp.2.2, decide_eq_true hc]; rfl
      · rw [hp.2.2, decide_eq_true hc]; simp
    rcases hnz with h0 | h0
    · obtain ⟨x, hx, h1, h2⟩ := one 3 s.cores h0 k4
      exact fin hx h1 (.inl ⟨rfl, h2⟩)
    · obtain ⟨x, hx, h1, h2⟩ := one 4 s.gpus h0 k5
      exact fin hx h1 (.inr ⟨rfl, h2⟩)
end

end Go.Proofs.YtglboolijhekkaaDoor

namespace Go.Proofs.YtglboolijhekkaaDoor

section
variable {g : Gr} {F : List Int} {s : Sp}
theorem kc_numsF (hg : rightG g = true) (p : Nat → Bool) (c : Int) : kc g (numsF p g.length) c = (cntP (fun x => p x && gk g x == c) g.length : Nat) := by
  rw [kc_is hg]
  congr 1
  refine cntP_congr fun x hx => ?_
  rw [hasB_numsF (rightG_is hg).few, decide_eq_true hx, Bool.true_and]
/-- of each node just as many cores and gpus as were asked for -/
theorem here_kinds (hg : rightG g = true) (hs : rightS s = true) {k : Nat} (h : selP g F s k = true) (hw : s.whole = false) :
    kc g (hereL g F s k) 3 = s.cores ∧ kc g (hereL g F s k) 4 = s.gpus ∧ kc g (hereL g F s k) 2 = 0 := by
  obtain ⟨k1, k2, k3, ⟨k4, k5⟩, k6⟩ := suitP_is.1 (sel_suit h)
  obtain ⟨_, _, q2, q3, _⟩ := rightS_is hs
  have key : ∀ (c m : Int), 0 ≤ m → m ≤ frN g F c k g.length → (∀ x, (getP g F s k x && gk g x == c) = (frP g F c k x && decide (cntP (frP g F c k) (x + 1) ≤ m.toNat))) → (cntP (fun x => getP g F s k x && gk g x == c) g.length : Int) = m := by
    intro c m h0 h1 h2
    rw [show cntP (fun x => getP g F s k x && gk g x == c) g.length = cntP (fun x => frP g F c k x && decide (cntP (frP g F c k) (x + 1) ≤ m.toNat)) g.length from cntP_congr fun x _ => h2 x, cntP_first]
    have : frN g F c k g.length = cntP (frP g F c k) g.length := rfl
    omega
  have form : ∀ x, getP g F s k x = (overG g k x && (hasB F (x : Int) && ((gk g x == 3 && decide ((frN g F 3 k (x + 1) : Int) ≤ s.cores)) || (gk g x == 4 && decide ((frN g F 4 k (x + 1) : Int) ≤ s.gpus))))) := fun x => by
    unfold getP; rw [hw, Bool.false_or]
  have dec : ∀ (c m : Int) (x : Nat), 0 ≤ m → decide ((frN g F c k (x + 1) : Int) ≤ m) = decide (cntP (frP g F c k) (x + 1) ≤ m.toNat) := fun c m x h0 => by
    have : frN g F c k (x + 1) = cntP (frP g F c k) (x + 1) := rfl
    rw [this]
    exact decide_eq_decide.2 (by omega)
  rw [here_yes h, kc_numsF hg, kc_numsF hg, kc_numsF hg]
  refine ⟨key 3 s.cores q2.1 k4 fun x => ?_, key 4 s.gpus q3.1 k5 fun x => ?_, ?_⟩
  · rw [form, ← dec 3 s.cores x q2.1]
    unfold frP
    by_cases h3 : gk g x = 3
    · have h4 : (gk g x == 4) = false := by rw [h3]; rfl
      rw [h3]
      cases overG g k x <;> cases hasB F (x : Int) <;> simp
    · have h3' : (gk g x == 3) = false := by simpa using h3
      rw [h3']
      simp
  · rw [form, ← dec 4 s.gpus x q3.1]
    unfold frP
    by_cases h4 : gk g x = 4
    · rw [h4]
      cases overG g k x <;> cases hasB F (x : Int) <;> simp
    · have h4' : (gk g x == 4) = false := by simpa using h4
      rw [h4']
      simp
  · have : cntP (fun x => getP g F s k x && gk g x == 2) g.length = 0 := cntP_zero fun x _ => by
      rw [form]
      by_cases h2 : gk g x = 2
      · rw [h2]; simp
      · have h2' : (gk g x == 2) = false := by simpa using h2
        rw [h2']; simp
    rw [this]; rfl
theorem whole_free {k : Nat} (h : suitP g F s k = true) (hw : s.whole = true) (c : Int) : frN g F c k g.length = cntP (fun x => overG g k x && gk g x == c) g.length := by
  refine cntP_congr fun x hx => ?_
  unfold frP
  cases ho : overG g k x with
  | false => rfl
  | true => rw [(suitP_is.1 h).2.2.2.2 hw x hx ho]; simp
/-- of a whole node at least as many -/
theorem here_kinds_whole (hg : rightG g = true) {k : Nat} (hk : k < g.length) (h : selP g F s k = true) (hw : s.whole = true) :
    s.cores ≤ kc g (hereL g F s k) 3 ∧ s.gpus ≤ kc g (hereL g F s k) 4 := by
  obtain ⟨k1, k2, k3, ⟨k4, k5⟩, k6⟩ := suitP_is.1 (sel_suit h)
  rw [here_whole hg hk h hw, kc_under hg hk, kc_under hg hk, ← whole_free (sel_suit h) hw, ← whole_free (sel_suit h) hw]
  exact ⟨k4, k5⟩

/-- how many of the first i nodes of the list are chosen -/
def selN (g : Gr) (F : List Int) (s : Sp) (i : Nat) : Nat := (((nodesL g).take i).filter fun x => selP g F s x.toNat).length
theorem selN_succ {i x : Nat} (hi : i < (nodesL g).length) (hx : (nodesL g).getD i 0 = x) : selN g F s (i + 1) = selN g F s i + (if selP g F s x = true then 1 else 0) := by
  unfold selN
  rw [List.take_succ_eq_append_getElem hi, List.filter_append, List.length_append]
  rw [List.getD, List.getElem?_eq_getElem hi] at hx
  have hx' : (nodesL g)[i] = (x : Int) := hx
  rw [hx']
  congr 1
  by_cases h : selP g F s x = true
  · rw [if_pos h]; simp [h]
  · rw [if_neg h]; simp [h]
theorem filter_numsF (p q : Nat → Bool) : ∀ n, ((numsF p n).filter fun x => q x.toNat).length = cntP (fun k => p k && q k) n
  | 0 => rfl
  | n + 1 => by
    rw [numsF_succ, List.filter_append, List.length_append, filter_numsF p q n, cntP_succ]
    congr 1
    cases hp : p n with
    | false => simp
    | true => cases hq : q n <;> simp [hq]
/-- as many nodes are chosen as were asked for -/
theorem selN_all (h : hadB g F s = true) : (selN g F s (nodesL g).length : Int) = s.nodes := by
  obtain ⟨hm, hc⟩ := hadB_is.1 h
  obtain ⟨h1, h2, h3⟩ := mayB_is hm
  have hn := (rightS_is h3).2.1
  unfold selN
  rw [List.take_length]
  unfold nodesL
  rw [if_pos h1, filter_numsF]
  have e : cntP (fun k => gk g k == 2 && selP g F s k) g.length = cntP (fun k => suitP g F s k && decide (cntP (suitP g F s) k < s.nodes.toNat)) g.length := by
    refine cntP_congr fun k _ => ?_
    have hd : decide ((cntS g F s k : Int) < s.nodes) = decide (cntP (suitP g F s) k < s.nodes.toNat) := by
      have : cntS g F s k = cntP (suitP g F s) k := rfl
      rw [this]
      exact decide_eq_decide.2 (by omega)
    unfold selP
    rw [hd]
    cases hs : suitP g F s k with
    | false => simp
    | true => rw [suit_node hs]; rfl
  rw [e, cntP_ahead]
  unfold cntS at hc
  omega
theorem selN_le (i : Nat) : selN g F s i ≤ (nodesL g).length := by
  unfold selN
  refine Nat.le_trans (List.length_filter_le _ _) ?_
  rw [List.length_take]
  omega

/-! More that is free -/
variable {F' : List Int}
theorem suit_mono {k : Nat} (hF : ∀ x, x < g.length → hasB F (x : Int) = true → hasB F' (x : Int) = true) (hk : k < g.length) (h : suitP g F s k = true) : suitP g F' s k = true := by
  obtain ⟨k1, k2, k3, ⟨k4, k5⟩, k6⟩ := suitP_is.1 h
  have mono : ∀ c, frN g F c k g.length ≤ frN g F' c k g.length := fun c => cntP_mono fun x hx hp => by
    unfold frP at hp ⊢
    rw [Bool.and_eq_true, Bool.and_eq_true] at hp ⊢
    exact ⟨hp.1, hF x hx hp.2.1, hp.2.2⟩
  have m3 := mono 3
  have m4 := mono 4
  exact suitP_is.2 ⟨k1, hF k hk k2, k3, ⟨by omega, by omega⟩, fun hw x hx ho => hF x hx (k6 hw x hx ho)⟩
theorem many_mono (hF : ∀ x, x < g.length → hasB F (x : Int) = true → hasB F' (x : Int) = true) : cntS g F s g.length ≤ cntS g F' s g.length :=
  cntP_mono fun _ hk h => suit_mono hF hk h
theorem had_mono (hr : rightB F' = true) (hF : ∀ x, x < g.length → hasB F (x : Int) = true → hasB F' (x : Int) = true) (h : hadB g F s = true) : hadB g F' s = true := by
  obtain ⟨hm, hc⟩ := hadB_is.1 h
  obtain ⟨h1, h2, h3⟩ := mayB_is hm
  have := many_mono (s := s) hF
  exact hadB_is.2 ⟨by unfold mayB; rw [h1, hr, h3]; rfl, by omega⟩
theorem has_all {n k : Nat} (hn : n ≤ 256) (hk : k < n) : hasB (allN n) (k : Int) = true := by
  unfold allN
  rw [hasB_numsF hn, decide_eq_true hk]; rfl
theorem had_could (h : hadB g F s = true) : couldL g s = true := by
  have hg := (mayB_is (hadB_is.1 h).1).1
  exact had_mono (numsF_right _ (rightG_is hg).few) (fun x hx _ => has_all (rightG_is hg).few hx) h
theorem has_iff {l : List Int} (hr : rightB l = true) {x : Int} : hasB l x = true ↔ x ∈ l := by
  unfold hasB
  rw [hr, Bool.true_and, List.contains_iff_mem]
theorem suit_congr {k : Nat} (hk : k < g.length) (hF : ∀ x, x < g.length → overG g k x = true → hasB F (x : Int) = hasB F' (x : Int)) : suitP g F s k = suitP g F' s k := by
  have hc : ∀ c, frN g F c k g.length = frN g F' c k g.length := fun c => cntP_congr fun x hx => by
    unfold frP
    cases ho : overG g k x with
    | false => rfl
    | true => rw [hF x hx ho]
  rw [Bool.eq_iff_iff, suitP_is, suitP_is, hc, hc, hF k hk over_self]
  refine and_congr_right fun _ => and_congr_right fun _ => and_congr_right fun _ => and_congr_right fun _ => ?_
  constructor
  · intro h hw x hx ho; rw [← hF x hx ho]; exact h hw x hx ho
  · intro h hw x hx ho; rw [hF x hx ho]; exact h hw x hx ho
/-- what one spec got, taken away, leaves all other nodes as they were -/
theorem suit_left {k : Nat} {t : Sp} (hg : rightG g = true) (hF : rightB F = true) (hk : k < g.length) {l : List Int} (hl : rightB l = true) (ha : apartB l (underL g (k : Int)) = true) : suitP g (lessL F l) t k = suitP g F t k := by
  rw [apart_iff hl (underL_right hg hk)] at ha
  refine suit_congr hk fun x hx ho => ?_
  have hn : (x : Int) ∉ l := fun hm => ha _ hm ((mem_under hg hk).2 ⟨x, hx, ho, rfl⟩)
  rw [Bool.eq_iff_iff, has_iff (right_lessL _ _), has_iff hF, mem_lessL hF hl]
  exact ⟨fun h => h.1, fun h => ⟨h, hn⟩⟩
theorem left_apart {t : Sp} (hF : rightB F = true) {l : List Int} (hl : rightB l = true) (h : hadB g (lessL F l) t = true) : apartB l (findL g (lessL F l) t) = true := by
  have hg := (mayB_is (hadB_is.1 h).1).1
  rw [apart_iff hl (findL_right hg)]
  intro x hx hm
  have := (part_iff (findL_right hg) (right_lessL _ _)).1 (find_part h) x hm
  rw [mem_lessL hF hl] at this
  exact this.2 hx

/-! Tags -/
def plainS (s : Sp) : Sp := { s with tag := ⟨#[]⟩ }
theorem plain_right (h : rightS s = true) : rightS (plainS s) = true := by
  have := rightS_is h
  exact rightS_mk ⟨show tagB ⟨#[]⟩ = true from by decide, this.2⟩
theorem plain_suit {k : Nat} (h : suitP g F s k = true) : suitP g F (plainS s) k = true := by
  obtain ⟨k1, k2, k3, k4, k6⟩ := suitP_is.1 h
  exact suitP_is.2 ⟨k1, k2, .inl rfl, k4, k6⟩
theorem tag_suit {k : Nat} (h : suitP g F s k = true) : s.tag.size = 0 ∨ s.tag = gt g k := (suitP_is.1 h).2.2.1
theorem tag_same {k : Nat} (h : gt g k = s.tag) : suitP g F s k = suitP g F (plainS s) k := by
  rw [Bool.eq_iff_iff]
  constructor
  · exact plain_suit
  · intro h'
    obtain ⟨k1, k2, k3, k4, k6⟩ := suitP_is.1 h'
    exact suitP_is.2 ⟨k1, k2, .inr h.symm, k4, k6⟩
theorem many_plain : manyL g F s ≤ manyL g F (plainS s) := by
  unfold manyL
  by_cases h : mayB g F s = true
  · obtain ⟨h1, h2, h3⟩ := mayB_is h
    have h' : mayB g F (plainS s) = true := by unfold mayB; rw [h1, h2, plain_right h3]; rfl
    rw [if_pos h, if_pos h']
    have := cntP_mono (p := suitP g F s) (q := suitP g F (plainS s)) (m := g.length) (fun k _ => plain_suit)
    unfold cntS
    omega
  · rw [if_neg h]
    split <;> omega
theorem many_nodes (hg : rightG g = true) : manyL g F s ≤ (nodesL g).length := by
  unfold manyL
  split
  · unfold nodesL
    rw [if_pos hg, numsF_cnt]
    have := cntP_mono (p := suitP g F s) (q := fun k => gk g k == 2) (m := g.length) (fun k _ h => by rw [suit_node h]; rfl)
    unfold cntS
    omega
  · omega
theorem many_bounds (hg : rightG g = true) : 0 ≤ manyL g F s ∧ manyL g F s ≤ 256 := by
  unfold manyL
  split
  · have := cntP_le (suitP g F s) g.length
    have := (rightG_is hg).few
    unfold cntS
    omega
  · omega

/-! Whole nodes -/
def wholeS (s : Sp) (b : Bool) : Sp := { s with whole := b }
theorem part_of_whole (h : rightS (wholeS s true) = true) : rightS (wholeS s false) = decide (0 < s.cores ∨ 0 < s.gpus) := by
  have h1 := rightS_is h
  rw [Bool.eq_iff_iff, decide_eq_true_eq]
  have e1 : (wholeS s true).cores = s.cores := rfl
  have e2 : (wholeS s true).gpus = s.gpus := rfl
  constructor
  · intro h2
    have h3 := (rightS_is h2).2.2.2.2.1
    have e3 : (wholeS s false).cores = s.cores := rfl
    have e4 : (wholeS s false).gpus = s.gpus := rfl
    rw [e3, e4] at h3
    rw [e1] at h1
    rw [e2] at h1
    have c0 := h1.2.2.1
    have g0 := h1.2.2.2.1
    by_cases hc : s.cores = 0
    · by_cases hp : s.gpus = 0
      · exact absurd ⟨hc, hp, rfl⟩ h3
      · exact .inr (by omega)
    · exact .inl (by omega)
  · intro h2
    refine rightS_mk ⟨h1.1, h1.2.1, h1.2.2.1, h1.2.2.2.1, ?_, h1.2.2.2.2.2⟩
    show ¬ (s.cores = 0 ∧ s.gpus = 0 ∧ false = false)
    omega
theorem whole_had (h : hadB g F (wholeS s true) = true) : hadB g F (wholeS s false) = decide (0 < s.cores ∨ 0 < s.gpus) := by
  obtain ⟨hm, hc⟩ := hadB_is.1 h
  obtain ⟨h1, h2, h3⟩ := mayB_is hm
  have hp := part_of_whole h3
  have hmono := cntP_mono (p := suitP g F (wholeS s true)) (q := suitP g F (wholeS s false)) (m := g.length) (fun k _ h => by
    obtain ⟨k1, k2, k3, k4, k6⟩ := suitP_is.1 h
    exact suitP_is.2 ⟨k1, k2, k3, k4, fun e => by cases e⟩)
  unfold hadB mayB
  rw [h1, h2, hp]
  have e : (wholeS s false).nodes = (wholeS s true).nodes := rfl
  rw [e, decide_eq_true (show (wholeS s true).nodes ≤ (cntS g F (wholeS s false) g.length : Int) by unfold cntS at hc ⊢; omega)]
  simp
/-- a node that is chosen is got whole; of another one nothing is got -/
theorem whole_node (h : hadB g F s = true) (hw : s.whole = true) {k : Nat} (hk : k < g.length) (h2 : gk g k = 2) :
    (selP g F s k = true → partB (underL g (k : Int)) (findL g F s) = true) ∧ (selP g F s k = false → partB (underL g (k : Int)) (findL g F s) = false ∧ apartB (underL g (k : Int)) (findL g F s) = true) := by
  obtain ⟨hg, hF, hs⟩ := mayB_is (hadB_is.1 h).1
  have hgr := rightG_is hg
  have hu := underL_right hg hk
  have hf := findL_right (F := F) (s := s) hg
  constructor
  · intro hsel
    rw [part_iff hu hf]
    intro x hx
    obtain ⟨j, hj, ho, rfl⟩ := (mem_under hg hk).1 hx
    refine (mem_find h).2 ⟨j, hj, ?_, rfl⟩
    rw [find_under hgr h2 hj ho, hsel]
    unfold getP
    rw [ho, hw]; rfl
  · intro hsel
    have hno : ∀ x ∈ underL g (k : Int), x ∉ findL g F s := by
      intro x hx hm
      obtain ⟨j, hj, ho, rfl⟩ := (mem_under hg hk).1 hx
      obtain ⟨i, hi, hp, e⟩ := (mem_find h).1 hm
      obtain rfl : j = i := by omega
      rw [find_under hgr h2 hj ho, hsel] at hp
      cases hp
    refine ⟨?_, (apart_iff hu hf).2 hno⟩
    cases hp : partB (underL g (k : Int)) (findL g F s) with
    | false => rfl
    | true =>
      rw [part_iff hu hf] at hp
      have hself : (k : Int) ∈ underL g (k : Int) := (mem_under hg hk).2 ⟨k, hk, over_self, rfl⟩
      exact absurd (hp _ hself) (hno _ hself)
end

end Go.Proofs.YtglboolijhekkaaDoor

namespace Go.Proofs.YtglboolijhekkaaDoor
open Go.RowKit

theorem bytes_snoc (s : ByteArray) (k : Nat) (h : k < s.size) : s.data.toList.take (k + 1) = s.data.toList.take k ++ [s[k]] := by
  rw [List.take_succ_eq_append_getElem (by simpa using h)]; rfl
theorem str_empty {s : ByteArray} (h : s.size = 0) : s = ⟨#[]⟩ := by
  apply ByteArray.ext
  exact Array.eq_empty_of_size_eq_zero h
theorem str_facts {s : ByteArray} (h : s.size ≠ 0) : (¬ s.toList = []) ∧ s.toList.isEmpty = false ∧ (s.toList == []) = false ∧ (s.toList != []) = true := by
  have h1 : ¬ s.toList = [] := fun e => h (by
    rw [ByteArray.toList_eq] at e
    have : s.data.toList.length = 0 := by rw [e]; rfl
    simpa using this)
  refine ⟨h1, ?_, ?_, ?_⟩
  · rw [← Bool.not_eq_true, List.isEmpty_iff]; exact h1
  · rw [← Bool.not_eq_true, beq_iff_eq]; exact h1
  · rw [bne_iff_ne]; exact h1
theorem tagB_size {s : ByteArray} (h : tagB s = true) : s.size ≤ 16 := by
  unfold tagB at h
  rw [Bool.and_eq_true, decide_eq_true_eq] at h
  exact h.2
theorem rightG_no {g : Gr} {i : Nat} (hi : i < g.length) (h : ¬ okT g i) : rightG g = false := by
  unfold rightG
  rw [decide_eq_false_iff_not]
  exact fun h' => h (h'.2.2 i hi)
theorem okT_zero (g : Gr) : okT g 0 ↔ gk g 0 = 0 ∧ gu g 0 = -1 ∧ (gt g 0).size = 0 := by unfold okT; rw [if_pos rfl]
theorem okT_pos {g : Gr} {i : Nat} (h : 0 < i) : okT g i ↔ 0 ≤ gu g i ∧ gu g i < i ∧ ((gt g i).size = 0 ∨ gk g i = 2) ∧ tagB (gt g i) = true ∧
      ((gk g i = 1 ∧ gk g (gu g i).toNat = 0) ∨ (gk g i = 2 ∧ gk g (gu g i).toNat < 2) ∨ ((gk g i = 3 ∨ gk g i = 4) ∧ gk g (gu g i).toNat = 2)) := by unfold okT; rw [if_neg (by omega)]
/-- one number more is appended -/
theorem wpList_append_EI {P : Program} {ops : Array Oper} {rest : List Oper} {o : Oper} {a : Act} {Q : Exit → Act → World → Prop} {w wr : World} {v : Value} {xs : List Int} (hgd : o.guard = none) (s x : Operand) (ty t : TypeId)
    (ho : o.op = .call { callee := .builtin .append, args := #[s, x], argTypes := #[ty, ty] })
    (h : ON EI 1 t w v xs wr) (i : TypeInfo) (ht : P.underlying ty = some (.slice t)) (hi : P.info? t = some i) (hz : i.zero = some (.int .i64 0)) (hsize : i.size = 1) (hby : i.bytes = 8)
    (hs : a.eval s = v) (x0 : Int) (hx : a.eval x = .slice (some ⟨wr.heap.size, 0, none⟩) 1 1) (hl : xs.length ≤ 1000)
    (hk : ∀ v' w', ON EI 1 t w v' (xs ++ [x0]) w' → wpList P ops Q rest (a.put o.dst v') w') : wpList P ops Q (o :: rest) a (wr.alloc (.cells #[.int .i64 x0] t)) :=
  wpList_append_ON hgd s x ty ho ei_steady h i (.int .i64 0) 8 ht hi hz hsize hby rfl (by decide) hs x0 #[.int .i64 x0] hx rfl (by intro u hu; simp at hu; subst hu; rfl) rfl (by unfold maxLen; omega) (by omega) hk

theorem wholeL_no {g : Gr} {l : List Int} (h : ¬ (rightG g = true ∧ rightB l = true ∧ ∀ x ∈ l, x < g.length)) : wholeL g l = [] := by
  unfold wholeL wholeOk
  rw [if_neg]
  intro h'
  rw [Bool.and_eq_true, Bool.and_eq_true, decide_eq_true_eq] at h'
  exact h ⟨h'.1.1, h'.1.2, h'.2⟩
theorem wholeL_yes {g : Gr} {l : List Int} (h1 : rightG g = true) (h2 : rightB l = true) (h3 : ∀ x ∈ l, x < g.length) : wholeL g l = numsF (anyOver g l) g.length := by
  unfold wholeL wholeOk
  rw [if_pos (by rw [h1, h2, decide_eq_true h3]; rfl)]
theorem right_lt_last {l : List Int} (h : rightB l = true) : ∀ (j i : Nat), i < j → j < l.length → l.getD i 0 < l.getD j 0 := by
  rw [rightB_iff] at h
  intro j
  induction j with
  | zero => intro i hi; omega
  | succ j ih =>
    intro i hi hj
    have := (h (j + 1) hj).2.2 (by omega)
    rw [Nat.add_sub_cancel] at this
    rcases Nat.lt_or_ge i j with h' | h'
    · have := ih i h' (by omega); omega
    · obtain rfl : i = j := by omega
      exact this
theorem all_lt_last {l : List Int} (h : rightB l = true) (hl : 0 < l.length) (N : Nat) : l.getD (l.length - 1) 0 < N → ∀ x ∈ l, x < N := by
  intro h1 x hx
  obtain ⟨i, hi, rfl⟩ := List.getElem_of_mem hx
  have e : l[i] = l.getD i 0 := by rw [List.getD, List.getElem?_eq_getElem hi]; rfl
  rw [e]
  rcases Nat.lt_or_ge i (l.length - 1) with h' | h'
  · have := right_lt_last h (l.length - 1) i h' (by omega); omega
  · obtain rfl : i = l.length - 1 := by omega
    exact h1
theorem anyOver_no {g : Gr} {l : List Int} {k : Nat} (h : ∀ i, i < l.length → overG g k (l.getD i 0).toNat = false) : anyOver g l k = false := by
  unfold anyOver
  rw [List.any_eq_false]
  intro x hx
  obtain ⟨i, hi, rfl⟩ := List.getElem_of_mem hx
  have := h i hi
  rw [List.getD, List.getElem?_eq_getElem hi] at this
  intro h'
  rw [show l[i] = (some l[i]).getD 0 from rfl, this] at h'
  cases h'

end Go.Proofs.YtglboolijhekkaaDoor

namespace Go.Proofs.YtglboolijhekkaaDoor
open Go.RowKit
attribute [local go_sem] alloc_drewN setCell_drewN

theorem bcell {B : Nat} {W w1 : World} (hb : Below B W w1) : (∀ b o, b < B → w1.cell? ⟨b, o, none⟩ = W.cell? ⟨b, o, none⟩) ∧ (∀ b o, b < B → w1.frozen? ⟨b, o, none⟩ = W.frozen? ⟨b, o, none⟩) :=
  ⟨fun b o h => hb.cell (p := ⟨b, o, none⟩) h, fun b o h => hb.frozen (p := ⟨b, o, none⟩) h⟩

set_option maxHeartbeats 1000000 in
theorem both_yes (A A' : Option Addr) (n c n' c' : Nat) (xs ys : List Int) (w : World) (hr : RI w w.heap.size A n xs) (hr' : RI w w.heap.size A' n' ys) (hn : n ≤ maxLen) (hn' : n' ≤ maxLen) (hx : rightB xs = true) (hy : rightB ys = true) :
    Calls Tryd.prog 26 #[.slice A n c, .slice A' n' c'] w fun e w' =>
      (∃ a0 a1 a2 a3 b0 b1 b2 b3 : Nat, Four (inB xs) a0 a1 a2 a3 ∧ Four (inB ys) b0 b1 b2 b3 ∧ e = .returned (.tuple #[.agg #[.int .u64 a0, .int .u64 a1, .int .u64 a2, .int .u64 a3], .agg #[.int .u64 b0, .int .u64 b1, .int .u64 b2, .int .u64 b3], .bool true])) ∧ Below w.heap.size w w' := by
  have HX := Lib.hid hx
  have HY := Lib.hid hy
  clear hx hy
  go_enter Tryd.func26, Tryd.ntmps26
  go_wp2_with fail
  have hb0 : Below w.heap.size w ((w.alloc (.cells #[.int .u64 0, .int .u64 0, .int .u64 0, .int .u64 0] 52)).alloc (.cells #[.int .u64 0, .int .u64 0, .int .u64 0, .int .u64 0] 52)) := by go_grown
  refine (pack_any _ _ _ xs _ ((hr.below hb0).more hb0.size) hn).mono ?_
  rintro e w1 ⟨⟨a0, a1, a2, a3, ha, rfl⟩, hb1⟩
  have HA := Lib.hid ha
  clear ha
  rw [HX.out]
  obtain ⟨hc1, hf1⟩ := bcell hb1
  have hz1 : w.heap.size + 1 + 1 ≤ w1.heap.size := by have := hb1.size; simp at this; omega
  have hz2 : w.heap.size + 1 < w1.heap.size := by omega
  have hz2' : w.heap.size < w1.heap.size := by omega
  simp only [World.size_alloc] at hc1 hf1
  go_wp2_with fail
  have hb2 : Below w.heap.size w (w1.alloc (.cells #[.int .u64 a0, .int .u64 a1, .int .u64 a2, .int .u64 a3] 52)) := (hb0.trans (hb1.mono (by simp; omega))).alloc (by omega) _
  refine (pack_any _ _ _ ys _ ((hr'.below hb2).more hb2.size) hn').mono ?_
  rintro e w2 ⟨⟨b0, b1, b2, b3, hb, rfl⟩, hb3⟩
  have HB := Lib.hid hb
  clear hb
  rw [HY.out]
  obtain ⟨hc3, hf3⟩ := bcell hb3
  have hz3 : w1.heap.size + 1 ≤ w2.heap.size := by have := hb3.size; simp at this; omega
  simp only [World.size_alloc] at hc3 hf3
  have hz4 : w1.heap.size < w2.heap.size := by omega
  have hz5 : w.heap.size + 1 < w2.heap.size := by omega
  have hz6 : w.heap.size < w2.heap.size := by omega
  have hz7 : w.heap.size < w1.heap.size + 1 := by omega
  have hz8 : w.heap.size + 1 < w1.heap.size + 1 := by omega
  have hb4 : Below w.heap.size w (w2.alloc (.cells #[.int .u64 b0, .int .u64 b1, .int .u64 b2, .int .u64 b3] 52)) := (hb2.trans (hb3.mono (by simp; omega))).alloc (by omega) _
  have cx0 : (w2.alloc (.cells #[.int .u64 b0, .int .u64 b1, .int .u64 b2, .int .u64 b3] 52)).cell? ⟨w1.heap.size, 0, none⟩ = some (.int .u64 a0) := by go_simp
  have cx1 : (w2.alloc (.cells #[.int .u64 b0, .int .u64 b1, .int .u64 b2, .int .u64 b3] 52)).cell? ⟨w1.heap.size, 1, none⟩ = some (.int .u64 a1) := by go_simp
  have cx2 : (w2.alloc (.cells #[.int .u64 b0, .int .u64 b1, .int .u64 b2, .int .u64 b3] 52)).cell? ⟨w1.heap.size, 2, none⟩ = some (.int .u64 a2) := by go_simp
  have cx3 : (w2.alloc (.cells #[.int .u64 b0, .int .u64 b1, .int .u64 b2, .int .u64 b3] 52)).cell? ⟨w1.heap.size, 3, none⟩ = some (.int .u64 a3) := by go_simp
  have cy0 : (w2.alloc (.cells #[.int .u64 b0, .int .u64 b1, .int .u64 b2, .int .u64 b3] 52)).cell? ⟨w2.heap.size, 0, none⟩ = some (.int .u64 b0) := by go_simp
  have cy1 : (w2.alloc (.cells #[.int .u64 b0, .int .u64 b1, .int .u64 b2, .int .u64 b3] 52)).cell? ⟨w2.heap.size, 1, none⟩ = some (.int .u64 b1) := by go_simp
  have cy2 : (w2.alloc (.cells #[.int .u64 b0, .int .u64 b1, .int .u64 b2, .int .u64 b3] 52)).cell? ⟨w2.heap.size, 2, none⟩ = some (.int .u64 b2) := by go_simp
  have cy3 : (w2.alloc (.cells #[.int .u64 b0, .int .u64 b1, .int .u64 b2, .int .u64 b3] 52)).cell? ⟨w2.heap.size, 3, none⟩ = some (.int .u64 b3) := by go_simp
  have cr0 : (w2.alloc (.cells #[.int .u64 b0, .int .u64 b1, .int .u64 b2, .int .u64 b3] 52)).cell? ⟨w.heap.size, 0, none⟩ = some (.int .u64 0) := by go_simp
  have fr0 : (w2.alloc (.cells #[.int .u64 b0, .int .u64 b1, .int .u64 b2, .int .u64 b3] 52)).frozen? ⟨w.heap.size, 0, none⟩ = false := by go_simp
  have cr1 : (w2.alloc (.cells #[.int .u64 b0, .int .u64 b1, .int .u64 b2, .int .u64 b3] 52)).cell? ⟨w.heap.size, 1, none⟩ = some (.int .u64 0) := by go_simp
  have fr1 : (w2.alloc (.cells #[.int .u64 b0, .int .u64 b1, .int .u64 b2, .int .u64 b3] 52)).frozen? ⟨w.heap.size, 1, none⟩ = false := by go_simp
  have cr2 : (w2.alloc (.cells #[.int .u64 b0, .int .u64 b1, .int .u64 b2, .int .u64 b3] 52)).cell? ⟨w.heap.size, 2, none⟩ = some (.int .u64 0) := by go_simp
  have fr2 : (w2.alloc (.cells #[.int .u64 b0, .int .u64 b1, .int .u64 b2, .int .u64 b3] 52)).frozen? ⟨w.heap.size, 2, none⟩ = false := by go_simp
  have cr3 : (w2.alloc (.cells #[.int .u64 b0, .int .u64 b1, .int .u64 b2, .int .u64 b3] 52)).cell? ⟨w.heap.size, 3, none⟩ = some (.int .u64 0) := by go_simp
  have fr3 : (w2.alloc (.cells #[.int .u64 b0, .int .u64 b1, .int .u64 b2, .int .u64 b3] 52)).frozen? ⟨w.heap.size, 3, none⟩ = false := by go_simp
  have cs0 : (w2.alloc (.cells #[.int .u64 b0, .int .u64 b1, .int .u64 b2, .int .u64 b3] 52)).cell? ⟨w.heap.size + 1, 0, none⟩ = some (.int .u64 0) := by go_simp
  have fs0 : (w2.alloc (.cells #[.int .u64 b0, .int .u64 b1, .int .u64 b2, .int .u64 b3] 52)).frozen? ⟨w.heap.size + 1, 0, none⟩ = false := by go_simp
  have cs1 : (w2.alloc (.cells #[.int .u64 b0, .int .u64 b1, .int .u64 b2, .int .u64 b3] 52)).cell? ⟨w.heap.size + 1, 1, none⟩ = some (.int .u64 0) := by go_simp
  have fs1 : (w2.alloc (.cells #[.int .u64 b0, .int .u64 b1, .int .u64 b2, .int .u64 b3] 52)).frozen? ⟨w.heap.size + 1, 1, none⟩ = false := by go_simp
  have cs2 : (w2.alloc (.cells #[.int .u64 b0, .int .u64 b1, .int .u64 b2, .int .u64 b3] 52)).cell? ⟨w.heap.size + 1, 2, none⟩ = some (.int .u64 0) := by go_simp
  have fs2 : (w2.alloc (.cells #[.int .u64 b0, .int .u64 b1, .int .u64 b2, .int .u64 b3] 52)).frozen? ⟨w.heap.size + 1, 2, none⟩ = false := by go_simp
  have cs3 : (w2.alloc (.cells #[.int .u64 b0, .int .u64 b1, .int .u64 b2, .int .u64 b3] 52)).cell? ⟨w.heap.size + 1, 3, none⟩ = some (.int .u64 0) := by go_simp
  have fs3 : (w2.alloc (.cells #[.int .u64 b0, .int .u64 b1, .int .u64 b2, .int .u64 b3] 52)).frozen? ⟨w.heap.size + 1, 3, none⟩ = false := by go_simp
  have hsz : w.heap.size + 1 < (w2.alloc (.cells #[.int .u64 b0, .int .u64 b1, .int .u64 b2, .int .u64 b3] 52)).heap.size := by simp; omega
  clear hr hr' hb0 hb1 hb2 hb3 hz1 hz3
  go_wp2
  clear hc1 hf1 hc3 hf3
  generalize (w2.alloc (.cells #[.int .u64 b0, .int .u64 b1, .int .u64 b2, .int .u64 b3] 52)) = W at *
  generalize hB : w.heap.size = B at *
  have HBB := Lib.hid hB
  clear hB
  generalize w1.heap.size = p at *
  generalize w2.heap.size = q at *
  go_region
  all_goals go_wp2
  all_goals
    refine bodyPost_ret (v := .tuple #[.agg #[.int .u64 a0, .int .u64 a1, .int .u64 a2, .int .u64 a3], .agg #[.int .u64 b0, .int .u64 b1, .int .u64 b2, .int .u64 b3], .bool true]) (by simp [results, Tryd.results26, go_sem, *]) rfl ⟨⟨a0, a1, a2, a3, b0, b1, b2, b3, HA.out HX.out, HB.out HY.out, rfl⟩, ?_⟩
    rw [HBB.out]
    go_grown

set_option maxHeartbeats 1000000 in
theorem both_no (A A' : Option Addr) (n c n' c' : Nat) (xs ys : List Int) (w : World) (hr : RI w w.heap.size A n xs) (hr' : RI w w.heap.size A' n' ys) (hn : n ≤ maxLen) (hn' : n' ≤ maxLen) (hxy : (rightB xs && rightB ys) = false) :
    Calls Tryd.prog 26 #[.slice A n c, .slice A' n' c'] w fun e w' =>
      e = .returned (.tuple #[.agg #[.int .u64 0, .int .u64 0, .int .u64 0, .int .u64 0], .agg #[.int .u64 0, .int .u64 0, .int .u64 0, .int .u64 0], .bool false]) ∧ Below w.heap.size w w' := by
  have HXY := Lib.hid hxy
  clear hxy
  obtain ⟨X, hX⟩ : ∃ X, rightB xs = X := ⟨_, rfl⟩
  obtain ⟨Y, hY⟩ : ∃ Y, rightB ys = Y := ⟨_, rfl⟩
  have HX := Lib.hid hX
  have HY := Lib.hid hY
  have HZ : Hid ((X && Y) = false) := Lib.hid (by rw [← hX, ← hY]; exact HXY.out)
  clear hX hY
  go_enter Tryd.func26, Tryd.ntmps26
  go_wp2_with fail
  have hb0 : Below w.heap.size w ((w.alloc (.cells #[.int .u64 0, .int .u64 0, .int .u64 0, .int .u64 0] 52)).alloc (.cells #[.int .u64 0, .int .u64 0, .int .u64 0, .int .u64 0] 52)) := by go_grown
  refine (pack_any _ _ _ xs _ ((hr.below hb0).more hb0.size) hn).mono ?_
  rintro e w1 ⟨⟨a0, a1, a2, a3, ha, rfl⟩, hb1⟩
  have HA := Lib.hid ha
  clear ha
  rw [HX.out]
  obtain ⟨hc1, hf1⟩ := bcell hb1
  have hz1 : w.heap.size + 1 + 1 ≤ w1.heap.size := by have := hb1.size; simp at this; omega
  have hz2 : w.heap.size + 1 < w1.heap.size := by omega
  have hz2' : w.heap.size < w1.heap.size := by omega
  simp only [World.size_alloc] at hc1 hf1
  go_wp2_with fail
  have hb2 : Below w.heap.size w (w1.alloc (.cells #[.int .u64 a0, .int .u64 a1, .int .u64 a2, .int .u64 a3] 52)) := (hb0.trans (hb1.mono (by simp; omega))).alloc (by omega) _
  refine (pack_any _ _ _ ys _ ((hr'.below hb2).more hb2.size) hn').mono ?_
  rintro e w2 ⟨⟨b0, b1, b2, b3, hb, rfl⟩, hb3⟩
  have HB := Lib.hid hb
  clear hb
  rw [HY.out]
  obtain ⟨hc3, hf3⟩ := bcell hb3
  have hz3 : w1.heap.size + 1 ≤ w2.heap.size := by have := hb3.size; simp at this; omega
  simp only [World.size_alloc] at hc3 hf3
  have hz4 : w1.heap.size < w2.heap.size := by omega
  have hz5 : w.heap.size + 1 < w2.heap.size := by omega
  have hz6 : w.heap.size < w2.heap.size := by omega
  have hz7 : w.heap.size < w1.heap.size + 1 := by omega
  have hz8 : w.heap.size + 1 < w1.heap.size + 1 := by omega
  have hb4 : Below w.heap.size w (w2.alloc (.cells #[.int .u64 b0, .int .u64 b1, .int .u64 b2, .int .u64 b3] 52)) := (hb2.trans (hb3.mono (by simp; omega))).alloc (by omega) _
  have cx0 : (w2.alloc (.cells #[.int .u64 b0, .int .u64 b1, .int .u64 b2, .int .u64 b3] 52)).cell? ⟨w1.heap.size, 0, none⟩ = some (.int .u64 a0) := by go_simp
  have cx1 : (w2.alloc (.cells #[.int .u64 b0, .int .u64 b1, .int .u64 b2, .int .u64 b3] 52)).cell? ⟨w1.heap.size, 1, none⟩ = some (.int .u64 a1) := by go_simp
  have cx2 : (w2.alloc (.cells #[.int .u64 b0, .int .u64 b1, .int .u64 b2, .int .u64 b3] 52)).cell? ⟨w1.heap.size, 2, none⟩ = some (.int .u64 a2) := by go_simp
  have cx3 : (w2.alloc (.cells #[.int .u64 b0, .int .u64 b1, .int .u64 b2, .int .u64 b3] 52)).cell? ⟨w1.heap.size, 3, none⟩ = some (.int .u64 a3) := by go_simp
  have cy0 : (w2.alloc (.cells #[.int .u64 b0, .int .u64 b1, .int .u64 b2, .int .u64 b3] 52)).cell? ⟨w2.heap.size, 0, none⟩ = some (.int .u64 b0) := by go_simp
  have cy1 : (w2.alloc (.cells #[.int .u64 b0, .int .u64 b1, .int .u64 b2, .int .u64 b3] 52)).cell? ⟨w2.heap.size, 1, none⟩ = some (.int .u64 b1) := by go_simp
  have cy2 : (w2.alloc (.cells #[.int .u64 b0, .int .u64 b1, .int .u64 b2, .int .u64 b3] 52)).cell? ⟨w2.heap.size, 2, none⟩ = some (.int .u64 b2) := by go_simp
  have cy3 : (w2.alloc (.cells #[.int .u64 b0, .int .u64 b1, .int .u64 b2, .int .u64 b3] 52)).cell? ⟨w2.heap.size, 3, none⟩ = some (.int .u64 b3) := by go_simp
  have cr0 : (w2.alloc (.cells #[.int .u64 b0, .int .u64 b1, .int .u64 b2, .int .u64 b3] 52)).cell? ⟨w.heap.size, 0, none⟩ = some (.int .u64 0) := by go_simp
  have fr0 : (w2.alloc (.cells #[.int .u64 b0, .int .u64 b1, .int .u64 b2, .int .u64 b3] 52)).frozen? ⟨w.heap.size, 0, none⟩ = false := by go_simp
  have cr1 : (w2.alloc (.cells #[.int .u64 b0, .int .u64 b1, .int .u64 b2, .int .u64 b3] 52)).cell? ⟨w.heap.size, 1, none⟩ = some (.int .u64 0) := by go_simp
  have fr1 : (w2.alloc (.cells #[.int .u64 b0, .int .u64 b1, .int .u64 b2, .int .u64 b3] 52)).frozen? ⟨w.heap.size, 1, none⟩ = false := by go_simp
  have cr2 : (w2.alloc (.cells #[.int .u64 b0, .int .u64 b1, .int .u64 b2, .int .u64 b3] 52)).cell? ⟨w.heap.size, 2, none⟩ = some (.int .u64 0) := by go_simp
  have fr2 : (w2.alloc (.cells #[.int .u64 b0, .int .u64 b1, .int .u64 b2, .int .u64 b3] 52)).frozen? ⟨w.heap.size, 2, none⟩ = false := by go_simp
  have cr3 : (w2.alloc (.cells #[.int .u64 b0, .int .u64 b1, .int .u64 b2, .int .u64 b3] 52)).cell? ⟨w.heap.size, 3, none⟩ = some (.int .u64 0) := by go_simp
  have fr3 : (w2.alloc (.cells #[.int .u64 b0, .int .u64 b1, .int .u64 b2, .int .u64 b3] 52)).frozen? ⟨w.heap.size, 3, none⟩ = false := by go_simp
  have cs0 : (w2.alloc (.cells #[.int .u64 b0, .int .u64 b1, .int .u64 b2, .int .u64 b3] 52)).cell? ⟨w.heap.size + 1, 0, none⟩ = some (.int .u64 0) := by go_simp
  have fs0 : (w2.alloc (.cells #[.int .u64 b0, .int .u64 b1, .int .u64 b2, .int .u64 b3] 52)).frozen? ⟨w.heap.size + 1, 0, none⟩ = false := by go_simp
  have cs1 : (w2.alloc (.cells #[.int .u64 b0, .int .u64 b1, .int .u64 b2, .int .u64 b3] 52)).cell? ⟨w.heap.size + 1, 1, none⟩ = some (.int .u64 0) := by go_simp
  have fs1 : (w2.alloc (.cells #[.int .u64 b0, .int .u64 b1, .int .u64 b2, .int .u64 b3] 52)).frozen? ⟨w.heap.size + 1, 1, none⟩ = false := by go_simp
  have cs2 : (w2.alloc (.cells #[.int .u64 b0, .int .u64 b1, .int .u64 b2, .int .u64 b3] 52)).cell? ⟨w.heap.size + 1, 2, none⟩ = some (.int .u64 0) := by go_simp
  have fs2 : (w2.alloc (.cells #[.int .u64 b0, .int .u64 b1, .int .u64 b2, .int .u64 b3] 52)).frozen? ⟨w.heap.size + 1, 2, none⟩ = false := by go_simp
  have cs3 : (w2.alloc (.cells #[.int .u64 b0, .int .u64 b1, .int .u64 b2, .int .u64 b3] 52)).cell? ⟨w.heap.size + 1, 3, none⟩ = some (.int .u64 0) := by go_simp
  have fs3 : (w2.alloc (.cells #[.int .u64 b0, .int .u64 b1, .int .u64 b2, .int .u64 b3] 52)).frozen? ⟨w.heap.size + 1, 3, none⟩ = false := by go_simp
  have hsz : w.heap.size + 1 < (w2.alloc (.cells #[.int .u64 b0, .int .u64 b1, .int .u64 b2, .int .u64 b3] 52)).heap.size := by simp; omega
  clear hr hr' hb0 hb1 hb2 hb3 hz1 hz3
  cases X with
  | false =>
    go_upto_region 4 with (fail)
    clear hc1 hf1 hc3 hf3
    generalize (w2.alloc (.cells #[.int .u64 b0, .int .u64 b1, .int .u64 b2, .int .u64 b3] 52)) = W at *
    generalize hB : w.heap.size = B at *
    have HBB := Lib.hid hB
    clear hB
    generalize w1.heap.size = p at *
    generalize w2.heap.size = q at *
    go_wp2
    refine bodyPost_ret (v := .tuple #[.agg #[.int .u64 0, .int .u64 0, .int .u64 0, .int .u64 0], .agg #[.int .u64 0, .int .u64 0, .int .u64 0, .int .u64 0], .bool false]) (by simp [results, Tryd.results26, go_sem, *]) rfl ⟨rfl, ?_⟩
    rw [HBB.out]
    go_grown
  | true =>
    have hY : Y = false := by simpa using HZ.out
    subst hY
    go_upto_region 4 with (fail)
    clear hc1 hf1 hc3 hf3
    generalize (w2.alloc (.cells #[.int .u64 b0, .int .u64 b1, .int .u64 b2, .int .u64 b3] 52)) = W at *
    generalize hB : w.heap.size = B at *
    have HBB := Lib.hid hB
    clear hB
    generalize w1.heap.size = p at *
    generalize w2.heap.size = q at *
    go_wp2
    refine bodyPost_ret (v := .tuple #[.agg #[.int .u64 0, .int .u64 0, .int .u64 0, .int .u64 0], .agg #[.int .u64 0, .int .u64 0, .int .u64 0, .int .u64 0], .bool false]) (by simp [results, Tryd.results26, go_sem, *]) rfl ⟨rfl, ?_⟩
    rw [HBB.out]
    go_grown

end Go.Proofs.YtglboolijhekkaaDoor

namespace Go.Proofs.YtglboolijhekkaaDoor
open Go.RowKit
open Go.Shelf
attribute [local go_sem] alloc_drewN setCell_drewN

/-- 'a slice that holds these numbers, in new memory', kept from the walk -/
def Gives (l : List Int) (w : World) (e : Ending) (w' : World) : Prop :=
  (∃ A c, l.length ≤ c ∧ e = .returned (.slice A l.length c) ∧ RI w' w'.heap.size A l.length l) ∧ Below w.heap.size w w'
theorem gives_of_own {l : List Int} {w w' : World} {B : Nat} {v : Value} (h : w'.ownsRow B 3 1 v l.length (l.map (Value.int .i64))) (hb : Below w.heap.size w w') : Gives l w (.returned v) w' := by
  rcases h.2 with ⟨hv, h0⟩ | ⟨g, cap, cur, hv, _, _, hcap, _⟩
  · subst hv
    have hl : l = [] := List.eq_nil_of_length_eq_zero h0
    subst hl
    exact ⟨⟨none, 0, Nat.le_refl _, rfl, RI.nil⟩, hb⟩
  · subst hv
    exact ⟨⟨_, _, hcap, rfl, RI.of_own h⟩, hb⟩

theorem IPost.gives {l : List Int} {w w' : World} {e : Ending} (h : IPost l w e w') : Gives l w e w' := by
  obtain ⟨⟨A, c, h1, h2, _, h4⟩, hb⟩ := h
  exact ⟨⟨A, c, h4, h1, h2⟩, hb⟩
theorem four_or {p q : Int → Bool} {a0 a1 a2 a3 b0 b1 b2 b3 : Nat} (h : Four p a0 a1 a2 a3) (k : Four q b0 b1 b2 b3) : Four (fun n => p n || q n) (a0 ||| b0) (a1 ||| b1) (a2 ||| b2) (a3 ||| b3) := by
  obtain ⟨rfl, rfl, rfl, rfl⟩ := h
  obtain ⟨rfl, rfl, rfl, rfl⟩ := k
  exact ⟨wordOf_or _ _ _, wordOf_or _ _ _, wordOf_or _ _ _, wordOf_or _ _ _⟩
theorem four_and {p q : Int → Bool} {a0 a1 a2 a3 b0 b1 b2 b3 : Nat} (h : Four p a0 a1 a2 a3) (k : Four q b0 b1 b2 b3) : Four (fun n => p n && q n) (a0 &&& b0) (a1 &&& b1) (a2 &&& b2) (a3 &&& b3) := by
  obtain ⟨rfl, rfl, rfl, rfl⟩ := h
  obtain ⟨rfl, rfl, rfl, rfl⟩ := k
  exact ⟨wordOf_and _ _ _, wordOf_and _ _ _, wordOf_and _ _ _, wordOf_and _ _ _⟩
theorem four_less {p q : Int → Bool} {a0 a1 a2 a3 b0 b1 b2 b3 : Nat} (h : Four p a0 a1 a2 a3) (k : Four q b0 b1 b2 b3) : Four (fun n => p n && !q n) (a0 &&& neg64 b0) (a1 &&& neg64 b1) (a2 &&& neg64 b2) (a3 &&& neg64 b3) := by
  obtain ⟨rfl, rfl, rfl, rfl⟩ := h
  obtain ⟨rfl, rfl, rfl, rfl⟩ := k
  exact ⟨wordOf_andNot _ _ _, wordOf_andNot _ _ _, wordOf_andNot _ _ _, wordOf_andNot _ _ _⟩

theorem joinL_pick {xs ys : List Int} (hx : rightB xs = true) (hy : rightB ys = true) : pickL (fun n => inB xs n || inB ys n) = joinL xs ys := by
  unfold joinL whichL
  rw [hx, hy]
  rfl

set_option maxHeartbeats 1000000 in
theorem join_post (A A' : Option Addr) (n c n' c' : Nat) (xs ys : List Int) (w : World) (hr : RI w w.heap.size A n xs) (hr' : RI w w.heap.size A' n' ys) (hn : n ≤ maxLen) (hn' : n' ≤ maxLen)
    (hT : TabAt 0 Lib.deBruijn64tab w) (hB : 0 < w.heap.size) :
    Calls Tryd.prog 18 #[.slice A n c, .slice A' n' c'] w (IPost (joinL xs ys) w) := by
  have HT := Lib.hid hT
  clear hT
  by_cases hxy : (rightB xs && rightB ys) = true
  · have hx : Hid (rightB xs = true) := Lib.hid (by simp at hxy; exact hxy.1)
    have hy : Hid (rightB ys = true) := Lib.hid (by simp at hxy; exact hxy.2)
    clear hxy
    go_enter Tryd.func18, Tryd.ntmps18
    go_wp2_with fail
    refine (both_yes _ _ _ _ _ _ xs ys _ hr hr' hn hn' hx.out hy.out).mono ?_
    rintro e w1 ⟨⟨a0, a1, a2, a3, b0, b1, b2, b3, ha, hb, rfl⟩, hb1⟩
    have HA := Lib.hid ha
    have HBB := Lib.hid hb
    obtain ⟨ua0, ua1, ua2, ua3⟩ := four_lt ha
    obtain ⟨ub0, ub1, ub2, ub3⟩ := four_lt hb
    clear ha hb hr hr'
    have hz := hb1.size
    go_wp2_with fail
    refine (wjoin_any a0 a1 a2 a3 b0 b1 b2 b3 _ ua0 ua1 ua2 ua3 ub0 ub1 ub2 ub3).mono ?_
    rintro e w2 ⟨rfl, hb2⟩
    have hb3 : Below w.heap.size w w2 := ((hb1.alloc (by omega) _).alloc (by simp; omega) _).trans (hb2.mono (by simp; omega))
    have hz3 := hb3.size
    go_wp2_with fail
    refine (list_any _ _ _ _ _ (four_or HA.out HBB.out) _ (tab_below HT.out hb3 hB) (by omega)).mono ?_
    rintro e w3 ⟨⟨v, rfl, hown⟩, hb4⟩
    have HO := Lib.hid hown
    clear hown
    go_wp2
    go_ret
    have h := HO.out
    rw [joinL_pick hx.out hy.out] at h
    exact ipost_own h (hb3.trans (hb4.mono hz3))
  · have hno : (rightB xs && rightB ys) = false := by simpa using hxy
    have HL : Hid (joinL xs ys = []) := Lib.hid (whichL_wrong hno)
    have HN := Lib.hid hno
    clear hxy hno
    go_enter Tryd.func18, Tryd.ntmps18
    go_wp2_with fail
    refine (both_no _ _ _ _ _ _ xs ys _ hr hr' hn hn' HN.out).mono ?_
    rintro e w1 ⟨rfl, hb1⟩
    have hz := hb1.size
    clear hr hr'
    go_wp2
    go_ret
    rw [HL.out]
    exact ipost_nil ((hb1.alloc (by omega) _).alloc (by simp; omega) _)

theorem meetL_pick {xs ys : List Int} (hx : rightB xs = true) (hy : rightB ys = true) : pickL (fun n => inB xs n && inB ys n) = meetL xs ys := by
  unfold meetL whichL
  rw [hx, hy]
  rfl

set_option maxHeartbeats 1000000 in
theorem meet_post (A A' : Option Addr) (n c n' c' : Nat) (xs ys : List Int) (w : World) (hr : RI w w.heap.size A n xs) (hr' : RI w w.heap.size A' n' ys) (hn : n ≤ maxLen) (hn' : n' ≤ maxLen)
    (hT : TabAt 0 Lib.deBruijn64tab w) (hB : 0 < w.heap.size) :
    Calls Tryd.prog 12 #[.slice A n c, .slice A' n' c'] w (IPost (meetL xs ys) w) := by
  have HT := Lib.hid hT
  clear hT
  by_cases hxy : (rightB xs && rightB ys) = true
  · have hx : Hid (rightB xs = true) := Lib.hid (by simp at hxy; exact hxy.1)
    have hy : Hid (rightB ys = true) := Lib.hid (by simp at hxy; exact hxy.2)
    clear hxy
    go_enter Tryd.func12, Tryd.ntmps12
    go_wp2_with fail
    refine (both_yes _ _ _ _ _ _ xs ys _ hr hr' hn hn' hx.out hy.out).mono ?_
    rintro e w1 ⟨⟨a0, a1, a2, a3, b0, b1, b2, b3, ha, hb, rfl⟩, hb1⟩
    have HA := Lib.hid ha
    have HBB := Lib.hid hb
    obtain ⟨ua0, ua1, ua2, ua3⟩ := four_lt ha
    obtain ⟨ub0, ub1, ub2, ub3⟩ := four_lt hb
    clear ha hb hr hr'
    have hz := hb1.size
    go_wp2_with fail
    refine (wmeet_any a0 a1 a2 a3 b0 b1 b2 b3 _ ua0 ua1 ua2 ua3 ub0 ub1 ub2 ub3).mono ?_
    rintro e w2 ⟨rfl, hb2⟩
    have hb3 : Below w.heap.size w w2 := ((hb1.alloc (by omega) _).alloc (by simp; omega) _).trans (hb2.mono (by simp; omega))
    have hz3 := hb3.size
    go_wp2_with fail
    refine (list_any _ _ _ _ _ (four_and HA.out HBB.out) _ (tab_below HT.out hb3 hB) (by omega)).mono ?_
    rintro e w3 ⟨⟨v, rfl, hown⟩, hb4⟩
    have HO := Lib.hid hown
    clear hown
    go_wp2
    go_ret
    have h := HO.out
    rw [meetL_pick hx.out hy.out] at h
    exact ipost_own h (hb3.trans (hb4.mono hz3))
  · have hno : (rightB xs && rightB ys) = false := by simpa using hxy
    have HL : Hid (meetL xs ys = []) := Lib.hid (whichL_wrong hno)
    have HN := Lib.hid hno
    clear hxy hno
    go_enter Tryd.func12, Tryd.ntmps12
    go_wp2_with fail
    refine (both_no _ _ _ _ _ _ xs ys _ hr hr' hn hn' HN.out).mono ?_
    rintro e w1 ⟨rfl, hb1⟩
    have hz := hb1.size
    clear hr hr'
    go_wp2
    go_ret
    rw [HL.out]
    exact ipost_nil ((hb1.alloc (by omega) _).alloc (by simp; omega) _)

theorem lessL_pick {xs ys : List Int} (hx : rightB xs = true) (hy : rightB ys = true) : pickL (fun n => inB xs n && !inB ys n) = lessL xs ys := by
  unfold lessL whichL
  rw [hx, hy]
  rfl

set_option maxHeartbeats 1000000 in
theorem less_post (A A' : Option Addr) (n c n' c' : Nat) (xs ys : List Int) (w : World) (hr : RI w w.heap.size A n xs) (hr' : RI w w.heap.size A' n' ys) (hn : n ≤ maxLen) (hn' : n' ≤ maxLen)
    (hT : TabAt 0 Lib.deBruijn64tab w) (hB : 0 < w.heap.size) :
    Calls Tryd.prog 19 #[.slice A n c, .slice A' n' c'] w (IPost (lessL xs ys) w) := by
  have HT := Lib.hid hT
  clear hT
  by_cases hxy : (rightB xs && rightB ys) = true
  · have hx : Hid (rightB xs = true) := Lib.hid (by simp at hxy; exact hxy.1)
    have hy : Hid (rightB ys = true) := Lib.hid (by simp at hxy; exact hxy.2)
    clear hxy
    go_enter Tryd.func19, Tryd.ntmps19
    go_wp2_with fail
    refine (both_yes _ _ _ _ _ _ xs ys _ hr hr' hn hn' hx.out hy.out).mono ?_
    rintro e w1 ⟨⟨a0, a1, a2, a3, b0, b1, b2, b3, ha, hb, rfl⟩, hb1⟩
    have HA := Lib.hid ha
    have HBB := Lib.hid hb
    obtain ⟨ua0, ua1, ua2, ua3⟩ := four_lt ha
    obtain ⟨ub0, ub1, ub2, ub3⟩ := four_lt hb
    clear ha hb hr hr'
    have hz := hb1.size
    go_wp2_with fail
    refine (wless_any a0 a1 a2 a3 b0 b1 b2 b3 _ ua0 ua1 ua2 ua3 ub0 ub1 ub2 ub3).mono ?_
    rintro e w2 ⟨rfl, hb2⟩
    have hb3 : Below w.heap.size w w2 := ((hb1.alloc (by omega) _).alloc (by simp; omega) _).trans (hb2.mono (by simp; omega))
    have hz3 := hb3.size
    go_wp2_with fail
    refine (list_any _ _ _ _ _ (four_less HA.out HBB.out) _ (tab_below HT.out hb3 hB) (by omega)).mono ?_
    rintro e w3 ⟨⟨v, rfl, hown⟩, hb4⟩
    have HO := Lib.hid hown
    clear hown
    go_wp2
    go_ret
    have h := HO.out
    rw [lessL_pick hx.out hy.out] at h
    exact ipost_own h (hb3.trans (hb4.mono hz3))
  · have hno : (rightB xs && rightB ys) = false := by simpa using hxy
    have HL : Hid (lessL xs ys = []) := Lib.hid (whichL_wrong hno)
    have HN := Lib.hid hno
    clear hxy hno
    go_enter Tryd.func19, Tryd.ntmps19
    go_wp2_with fail
    refine (both_no _ _ _ _ _ _ xs ys _ hr hr' hn hn' HN.out).mono ?_
    rintro e w1 ⟨rfl, hb1⟩
    have hz := hb1.size
    clear hr hr'
    go_wp2
    go_ret
    rw [HL.out]
    exact ipost_nil ((hb1.alloc (by omega) _).alloc (by simp; omega) _)

theorem join_ops (A A' : Option Addr) (n c n' c' : Nat) (xs ys : List Int) (w : World) (hr : RI w w.heap.size A n xs) (hr' : RI w w.heap.size A' n' ys) (hn : n ≤ maxLen) (hn' : n' ≤ maxLen)
    (hT : TabAt 0 Lib.deBruijn64tab w) (hB : 0 < w.heap.size) :
    Calls Tryd.prog 18 #[.slice A n c, .slice A' n' c'] w (Gives (joinL xs ys) w) := (join_post A A' n c n' c' xs ys w hr hr' hn hn' hT hB).mono fun _ _ h => h.gives
theorem meet_ops (A A' : Option Addr) (n c n' c' : Nat) (xs ys : List Int) (w : World) (hr : RI w w.heap.size A n xs) (hr' : RI w w.heap.size A' n' ys) (hn : n ≤ maxLen) (hn' : n' ≤ maxLen)
    (hT : TabAt 0 Lib.deBruijn64tab w) (hB : 0 < w.heap.size) :
    Calls Tryd.prog 12 #[.slice A n c, .slice A' n' c'] w (Gives (meetL xs ys) w) := (meet_post A A' n c n' c' xs ys w hr hr' hn hn' hT hB).mono fun _ _ h => h.gives
theorem less_ops (A A' : Option Addr) (n c n' c' : Nat) (xs ys : List Int) (w : World) (hr : RI w w.heap.size A n xs) (hr' : RI w w.heap.size A' n' ys) (hn : n ≤ maxLen) (hn' : n' ≤ maxLen)
    (hT : TabAt 0 Lib.deBruijn64tab w) (hB : 0 < w.heap.size) :
    Calls Tryd.prog 19 #[.slice A n c, .slice A' n' c'] w (Gives (lessL xs ys) w) := (less_post A A' n c n' c' xs ys w hr hr' hn hn' hT hB).mono fun _ _ h => h.gives

end Go.Proofs.YtglboolijhekkaaDoor
