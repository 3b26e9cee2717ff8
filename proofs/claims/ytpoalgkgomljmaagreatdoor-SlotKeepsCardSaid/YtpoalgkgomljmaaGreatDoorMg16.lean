/- The program's tables of layer 9 (match) in plain words: the node that a thing is part of, how many are counted at each node, how many are left to be taken. No program's text is walked here. The program's small functions of layer 5 (graph): Tag, partOf, tagged: what they answer of any string, kinds, thing. The program's tagged and Right of layer 5 (graph): what they answer of any thing, any list of things. Words for memory: an array of 256 bools in a block of its own (the program's marks): made, marked, loaded whole, asked at a place. The program's there, marks.list, Node of layer 5 (graph): what they answer of any list of things, any marks. -/
import Derived.Test.YtpoalgkgomljmaaGreatDoorMg11
import Derived.Test.YtpoalgkgomljmaaGreatDoorMg07
import Derived.LoopTactic
import Derived.Deep.QuietTactic
import Derived.BigQuiet
import Derived.Test.YtpoalgkgomljmaaGreatDoorMg05
import Derived.Test.YtpoalgkgomljmaaGreatDoorMg03
import Derived.Deep.RegionHeld3
import Derived.Laws.StructEq
import Derived.Laws.Rows
namespace Go.Proofs.YtpoalgkgomljmaaGreatDoor

/-- the node that thing x is, or is part of -/
def homeG (g : Gr) (x : Int) : Int × Bool :=
  if x < g.length then (if gk g x.toNat = 2 then (x, true) else if gk g x.toNat = 3 ∨ gk g x.toNat = 4 then (gu g x.toNat, true) else (0, false)) else (0, false)
section
variable {g : Gr} {F : List Int} {s : Sp} {k x m : Nat}
theorem under_kind (hg : RightG g) (hx : x < g.length) (hk : gk g k = 2) (ho : overG g k x = true) : gk g x = 2 ∨ gk g x = 3 ∨ gk g x = 4 := by
  have h1 := hg.kinds hx
  by_cases h : gk g x < 2
  · have := over_high hg x hx h ho
    omega
  · omega
/-- a thing's home -/
theorem home_is (hg : RightG g) (hx : x < g.length) : (∃ k, k < g.length ∧ homeG g (x : Int) = ((k : Int), true) ∧ gk g k = 2 ∧ overG g k x = true ∧ (gk g x = 2 ∨ gk g x = 3 ∨ gk g x = 4)) ∨ (homeG g (x : Int) = (0, false) ∧ (gk g x = 0 ∨ gk g x = 1)) := by
  have h1 := hg.kinds hx
  unfold homeG
  rw [if_pos (by omega), Int.toNat_natCast]
  by_cases h2 : gk g x = 2
  · exact .inl ⟨x, hx, by rw [if_pos h2], h2, over_self, .inl h2⟩
  · rw [if_neg h2]
    by_cases h3 : gk g x = 3 ∨ gk g x = 4
    · rw [if_pos h3]
      have hx0 : 0 < x := by
        rcases Nat.eq_zero_or_pos x with e | e
        · subst e; have := hg.top.1; omega
        · exact e
      have hu := hg.up x hx0 hx
      have hp : gk g (par g x) = 2 := by rcases hg.kind x hx0 hx with e | e | e <;> omega
      refine .inl ⟨par g x, by omega, by unfold par; rw [Int.toNat_of_nonneg hu.1], hp, ?_, .inr h3⟩
      rw [over_up hg hx hu.2]
      exact over_self
    · rw [if_neg h3]
      exact .inr ⟨rfl, by omega⟩
theorem home_far (hx : g.length ≤ x) : homeG g (x : Int) = (0, false) := by unfold homeG; rw [if_neg (by omega)]
theorem far_kind (hx : g.length ≤ x) : gk g x = 0 := by
  unfold gk
  rw [List.getD, List.getElem?_eq_none hx]; rfl

/-! What is counted -/
/-- how many of the first m numbers of the set there are at node k, of kind c -/
def tabT (g : Gr) (F : List Int) (m k c : Nat) : Int := if gk g k = 2 ∧ 2 ≤ c then (frN g F (c : Int) k m : Int) else 0
/-- one entry is turned -/
def upT (T : Nat → Nat → Int) (k c : Nat) (v : Int) : Nat → Nat → Int := fun k' c' => if k' = k ∧ c' = c then v else T k' c'
theorem frN_succ (g : Gr) (F : List Int) (c : Int) (k m : Nat) : frN g F c k (m + 1) = frN g F c k m + (if frP g F c k m = true then 1 else 0) := cntP_succ _ _
theorem frN_le (c : Int) : frN g F c k m ≤ m := cntP_le _ _
theorem tab_le {c : Nat} : tabT g F m k c ≤ m ∧ 0 ≤ tabT g F m k c := by
  unfold tabT
  split
  · have := frN_le (g := g) (F := F) (k := k) (m := m) (c : Int); omega
  · omega
theorem tab_zero {c : Nat} : tabT g F 0 k c = 0 := by
  unfold tabT
  split
  · rfl
  · rfl
theorem frP_no {c : Int} (h : hasB F (x : Int) = false ∨ overG g k x = false ∨ ¬ gk g x = c) : frP g F c k x = false := by
  unfold frP
  rcases h with h | h | h
  · rw [h]; simp
  · rw [h]; simp
  · rw [show (gk g x == c) = false from beq_eq_false_iff_ne.2 h]; simp
/-- what isn't in the set, or has no home, is not counted -/
theorem tab_skip {c : Nat} (h : hasB F (m : Int) = false ∨ gk g m = 0 ∨ gk g m = 1) : tabT g F (m + 1) k c = tabT g F m k c := by
  unfold tabT
  split
  · rename_i h2
    rw [frN_succ, frP_no (by rcases h with h | h | h; exact .inl h; all_goals exact .inr (.inr (by omega)))]
    rfl
  · rfl
/-- what is in the set is counted at its home -/
theorem tab_step (hg : RightG g) (hm : m < g.length) {j d : Nat} (hj : gk g j = 2) (ho : overG g j m = true) (hd : gk g m = (d : Int)) (hF : hasB F (m : Int) = true) (c : Nat) (_ : k < g.length) :
    tabT g F (m + 1) k c = upT (tabT g F m) j d (tabT g F m j d + 1) k c := by
  have hdk := under_kind hg hm hj ho
  unfold upT
  by_cases h : k = j ∧ c = d
  · obtain ⟨rfl, rfl⟩ := h
    rw [if_pos ⟨rfl, rfl⟩]
    unfold tabT
    rw [if_pos ⟨hj, by omega⟩, if_pos ⟨hj, by omega⟩, frN_succ, if_pos (by unfold frP; rw [ho, hF, hd]; simp)]
    omega
  · rw [if_neg h]
    unfold tabT
    split
    · rename_i h2
      rw [frN_succ, frP_no]
      · rfl
      · by_cases hc : c = d
        · have hkj : k ≠ j := fun e => h ⟨e, hc⟩
          refine .inr (.inl ?_)
          cases ho2 : overG g k m with
          | false => rfl
          | true => exact absurd (under_one hg hm h2.1 hj ho2 ho) hkj
        · exact .inr (.inr (by rw [hd]; omega))
    · rfl
theorem fr_far {c : Nat} (hc : 2 ≤ c) (hm : g.length ≤ m) : frN g F (c : Int) k m = frN g F (c : Int) k g.length :=
  cntP_gap hm fun y h1 _ => frP_no (.inr (.inr (by rw [far_kind h1]; omega)))
theorem tab_gap {c m' : Nat} (h : m ≤ m') (hg : ∀ y, m ≤ y → y < m' → hasB F (y : Int) = false) : tabT g F m' k c = tabT g F m k c := by
  unfold tabT
  split
  · unfold frN
    rw [cntP_gap h fun y h1 h2 => frP_no (.inl (hg y h1 h2))]
  · rfl

/-! Who suits, by what is counted -/
theorem fr_self (hg : RightG g) (hk : k < g.length) (h2 : gk g k = 2) : frN g F 2 k g.length = if hasB F (k : Int) = true then 1 else 0 := by
  have hoth : ∀ y, y < g.length → y ≠ k → frP g F 2 k y = false := by
    intro y hy hne
    by_cases hky : gk g y = 2
    · refine frP_no (.inr (.inl ?_))
      cases ho : overG g k y with
      | false => rfl
      | true => exact absurd (node_node hg hy h2 hky ho).symm hne
    · exact frP_no (.inr (.inr hky))
  split
  · rename_i h
    exact cntP_one hk (by unfold frP; rw [over_self, h, h2]; rfl) hoth
  · rename_i h
    refine cntP_zero fun y hy => ?_
    by_cases hyk : y = k
    · subst hyk
      exact frP_no (.inl (by cases hb : hasB F (y : Int) with | false => rfl | true => exact absurd hb h))
    · exact hoth y hy hyk
theorem cntP_same {p q : Nat → Bool} : ∀ {n : Nat}, (∀ k, k < n → p k = true → q k = true) → cntP p n = cntP q n → ∀ k, k < n → p k = q k
  | 0, _, _, k, hk => absurd hk (by omega)
  | n + 1, h, he, k, hk => by
    have hm := cntP_mono (m := n) (fun j hj => h j (by omega))
    have hn := h n (by omega)
    rw [cntP_succ, cntP_succ] at he
    have hpq : p n = q n ∧ cntP p n = cntP q n := by
      cases hp : p n with
      | true =>
        rw [hp, hn hp, if_pos rfl] at he
        exact ⟨(hn hp).symm, by omega⟩
      | false =>
        cases hq : q n with
        | false => rw [hp, hq] at he; exact ⟨rfl, by simpa using he⟩
        | true => rw [hp, hq] at he; simp at he; omega
    by_cases hkn : k = n
    · subst hkn; exact hpq.1
    · exact cntP_same (n := n) (fun j hj => h j (by omega)) hpq.2 k (by omega)
def allT (g : Gr) : List Int := underL g 0
theorem all_is (h : rightG g = true) : underL g 0 = allN g.length := by
  have hg := rightG_is h
  rw [show (0 : Int) = ((0 : Nat) : Int) from rfl, underL_is h hg.pos]
  exact numsF_ext fun k hk => over_zero hg k hk
/-- at a node all is free that is free anywhere -/
def sameT (g : Gr) (F : List Int) (k : Nat) : Bool := decide (tabT g F 256 k 0 = tabT g (underL g 0) 256 k 0 ∧ tabT g F 256 k 1 = tabT g (underL g 0) 256 k 1 ∧ tabT g F 256 k 2 = tabT g (underL g 0) 256 k 2 ∧ tabT g F 256 k 3 = tabT g (underL g 0) 256 k 3 ∧ tabT g F 256 k 4 = tabT g (underL g 0) 256 k 4)
def tagT (g : Gr) (s : Sp) (k : Nat) : Bool := decide (s.tag.size = 0 ∨ gt g k = s.tag)
def enoughT (g : Gr) (F : List Int) (s : Sp) (k : Nat) : Bool := decide (tabT g F 256 k 2 = 1 ∧ s.cores ≤ tabT g F 256 k 3 ∧ s.gpus ≤ tabT g F 256 k 4)
theorem suit_by (h : rightG g = true) (hk : k < g.length) (h2 : gk g k = 2) : suitP g F s k = (tagT g s k && (enoughT g F s k && (!s.whole || sameT g F k))) := by
  have hg := rightG_is h
  have hT : ∀ (F : List Int) (c : Nat), 2 ≤ c → tabT g F 256 k c = frN g F (c : Int) k g.length := fun F c hc => by
    unfold tabT
    rw [if_pos ⟨h2, hc⟩, fr_far hc hg.few]
  have hlow : ∀ (F : List Int) (c : Nat), c < 2 → tabT g F 256 k c = 0 := fun F c hc => by unfold tabT; rw [if_neg (by omega)]
  have e1 : tagT g s k = decide (s.tag.size = 0 ∨ s.tag = gt g k) := decide_eq_decide.2 ⟨fun h => h.imp id Eq.symm, fun h => h.imp id Eq.symm⟩
  have e2 : enoughT g F s k = (hasB F (k : Int) && decide (s.cores ≤ frN g F 3 k g.length ∧ s.gpus ≤ frN g F 4 k g.length)) := by
    unfold enoughT
    rw [hT F 2 (by omega), hT F 3 (by omega), hT F 4 (by omega)]
    rw [show ((2 : Nat) : Int) = 2 from rfl, fr_self hg hk h2]
    by_cases hb : hasB F (k : Int) = true
    · rw [if_pos hb, hb]; simp
    · rw [if_neg hb, Bool.eq_false_iff.2 hb]; simp
  have e3 : sameT g F k = decide (∀ x, x < g.length → overG g k x = true → hasB F (x : Int) = true) := by
    unfold sameT
    have hall : ∀ x, x < g.length → hasB (underL g 0) (x : Int) = true := fun x hx => by rw [all_is h]; exact has_all hg.few hx
    rw [hlow, hlow, hlow, hlow, hT F 2 (by omega), hT F 3 (by omega), hT F 4 (by omega), hT _ 2 (by omega), hT _ 3 (by omega), hT _ 4 (by omega)]
    any_goals omega
    refine decide_eq_decide.2 ⟨?_, fun hx => ?_⟩
    · rintro ⟨_, _, a2, a3, a4⟩ x hx ho
      have key : ∀ c : Nat, (frN g F (c : Int) k g.length : Int) = frN g (underL g 0) (c : Int) k g.length → gk g x = (c : Int) → hasB F (x : Int) = true := by
        intro c he hc
        have hs := cntP_same (p := frP g F (c : Int) k) (q := frP g (underL g 0) (c : Int) k) (n := g.length) (fun y hy hp => by
          unfold frP at hp ⊢
          rw [Bool.and_eq_true, Bool.and_eq_true] at hp
          rw [hp.1, hall y hy, hp.2.2]; rfl) (by unfold frN at he; omega) x hx
        unfold frP at hs
        rw [ho, hall x hx, hc] at hs
        simpa using hs
      rcases under_kind hg hx h2 ho with e | e | e
      · exact key 2 a2 e
      · exact key 3 a3 e
      · exact key 4 a4 e
    · have key : ∀ c : Nat, frN g F (c : Int) k g.length = frN g (underL g 0) (c : Int) k g.length := fun c => cntP_congr fun y hy => by
        unfold frP
        cases ho : overG g k y with
        | false => rfl
        | true => rw [hx y hy ho, hall y hy]
      exact ⟨rfl, rfl, by rw [key 2], by rw [key 3], by rw [key 4]⟩
  rw [e1, e2, e3]
  unfold suitP
  rw [h2]
  cases hasB F (k : Int) <;> cases (decide (s.tag.size = 0 ∨ s.tag = gt g k)) <;> simp

/-! The list of those that suit -/
theorem numsF_filter (p q : Nat → Bool) : ∀ n, (numsF p n).filter (fun x => q x.toNat) = numsF (fun k => p k && q k) n
  | 0 => rfl
  | n + 1 => by
    rw [numsF_succ, List.filter_append, numsF_filter p q n, numsF_succ]
    congr 1
    cases hp : p n with
    | false => simp
    | true => cases hq : q n <;> simp [hq]
/-- the nodes that suit -/
def suitL (g : Gr) (F : List Int) (s : Sp) : List Int := if mayB g F s = true then numsF (suitP g F s) g.length else []
theorem suitL_of (h : mayB g F s = true) : suitL g F s = numsF (suitP g F s) g.length := by unfold suitL; rw [if_pos h]
theorem suitL_no (h : mayB g F s = false) : suitL g F s = [] := by unfold suitL; rw [if_neg (by rw [h]; simp)]
theorem nodes_suit (h : mayB g F s = true) : (nodesL g).filter (fun x => suitP g F s x.toNat) = suitL g F s := by
  rw [suitL_of h]
  unfold nodesL
  rw [if_pos (mayB_is h).1, numsF_filter]
  refine numsF_ext fun k _ => ?_
  cases hs : suitP g F s k with
  | false => simp
  | true => rw [suit_node hs]; rfl
theorem suitL_many : manyL g F s = (suitL g F s).length := by
  unfold manyL suitL
  split
  · rw [numsF_cnt]; rfl
  · rfl
theorem suitL_has {a : Int} : suitsL g F s a = (suitL g F s).contains a := by
  unfold suitsL suitL
  by_cases h : mayB g F s = true
  · rw [if_pos h, h, Bool.true_and, Bool.eq_iff_iff, Bool.and_eq_true, decide_eq_true_eq, List.contains_iff_mem, mem_numsF]
    constructor
    · rintro ⟨⟨h1, h2⟩, h3⟩
      exact ⟨a.toNat, by omega, h3, by omega⟩
    · rintro ⟨k, h1, h2, rfl⟩
      exact ⟨⟨by omega, by omega⟩, by rwa [Int.toNat_natCast]⟩
  · rw [if_neg h, Bool.eq_false_iff.2 h]; rfl
theorem suitL_len (h : mayB g F s = true) : (suitL g F s).length = cntS g F s g.length := by rw [suitL_of h, numsF_cnt]; rfl
theorem suitL_few : (suitL g F s).length ≤ 256 := by
  unfold suitL
  split
  · rename_i h
    exact Nat.le_trans (numsF_len _ _) (rightG_is (mayB_is h).1).few
  · exact Nat.zero_le _
theorem suitL_i64 : ∀ x ∈ suitL g F s, I64 x := by
  unfold suitL
  split
  · rename_i h
    exact numsF_i64 (by have := (rightG_is (mayB_is h).1).few; omega)
  · intro x hx; cases hx
/-- the first c of them -/
theorem numsF_take (p : Nat → Bool) (c : Nat) : ∀ n, (numsF p n).take c = numsF (fun k => p k && decide (cntP p k < c)) n
  | 0 => by simp [numsF]
  | n + 1 => by
    rw [numsF_succ, numsF_succ, ← numsF_take p c n, List.take_append]
    congr 1
    rw [numsF_cnt]
    cases hp : p n with
    | false => simp
    | true =>
      by_cases h : cntP p n < c
      · rw [show c - cntP p n = (c - cntP p n - 1) + 1 by omega]; simp [h]
      · rw [show c - cntP p n = 0 by omega]; simp [h]
theorem sel_take (h : mayB g F s = true) (h0 : 0 ≤ s.nodes) : (suitL g F s).take s.nodes.toNat = numsF (selP g F s) g.length := by
  rw [suitL_of h, numsF_take]
  refine numsF_ext fun k _ => ?_
  unfold selP cntS
  congr 1
  exact decide_eq_decide.2 (by omega)

/-! What is left to be taken -/
def mostS (s : Sp) (c : Nat) : Int := if s.whole = true then (if c = 2 then 1 else if c = 3 ∨ c = 4 then 256 else 0) else (if c = 3 then s.cores else if c = 4 then s.gpus else 0)
/-- as the first m numbers are looked at: the nodes' part -/
def firstT (g : Gr) (F : List Int) (s : Sp) (m k c : Nat) : Int := if k < m ∧ selP g F s k = true then mostS s c else 0
def leftT (g : Gr) (F : List Int) (s : Sp) (m k c : Nat) : Int := if selP g F s k = true then max 0 (mostS s c - (if 2 ≤ c then (frN g F (c : Int) k m : Int) else 0)) else 0
theorem most_range (hs : rightS s = true) (c : Nat) : 0 ≤ mostS s c ∧ mostS s c ≤ 256 := by
  obtain ⟨_, _, q2, q3, _⟩ := rightS_is hs
  unfold mostS
  split
  · split
    · omega
    · split <;> omega
  · split
    · omega
    · split <;> omega
theorem left_range (hs : rightS s = true) (c : Nat) : 0 ≤ leftT g F s m k c ∧ leftT g F s m k c ≤ 256 := by
  have := most_range hs c
  unfold leftT
  split
  · omega
  · omega
theorem left_start (hs : rightS s = true) (c : Nat) (hk : k < g.length) : firstT g F s g.length k c = leftT g F s 0 k c := by
  have := most_range hs c
  unfold firstT leftT
  by_cases h : selP g F s k = true
  · rw [if_pos ⟨hk, h⟩, if_pos h]
    have e : frN g F (c : Int) k 0 = 0 := rfl
    rw [e]
    split <;> omega
  · rw [if_neg (fun e => h e.2), if_neg h]
theorem first_zero (c : Nat) : firstT g F s 0 k c = 0 := by unfold firstT; rw [if_neg (by omega)]
theorem first_step (c : Nat) {x : Nat} (hx : selP g F s x = true) {m : Nat} (hm : m ≤ x) (hgap : ∀ y, m ≤ y → y < x → selP g F s y = false) : firstT g F s (x + 1) k c = if k = x then mostS s c else firstT g F s m k c := by
  unfold firstT
  by_cases h : k = x
  · subst h
    rw [if_pos rfl, if_pos ⟨by omega, hx⟩]
  · rw [if_neg h]
    by_cases h2 : k < m
    · by_cases h3 : selP g F s k = true
      · rw [if_pos ⟨by omega, h3⟩, if_pos ⟨h2, h3⟩]
      · rw [if_neg (fun e => h3 e.2), if_neg (fun e => h3 e.2)]
    · rw [if_neg (c := k < m ∧ _) (fun e => h2 e.1)]
      by_cases h3 : k < x + 1
      · exact if_neg (fun e => by have := hgap k (by omega) (by omega); rw [this] at e; cases e.2)
      · exact if_neg (fun e => h3 e.1)
theorem first_end (c : Nat) {m : Nat} (_ : m ≤ g.length) (hgap : ∀ y, m ≤ y → y < g.length → selP g F s y = false) (hk : k < g.length) : firstT g F s m k c = firstT g F s g.length k c := by
  unfold firstT
  by_cases h2 : k < m
  · by_cases h3 : selP g F s k = true
    · rw [if_pos ⟨h2, h3⟩, if_pos ⟨by omega, h3⟩]
    · rw [if_neg (fun e => h3 e.2), if_neg (fun e => h3 e.2)]
  · rw [if_neg (fun e => h2 e.1), if_neg (fun e => by have := hgap k (by omega) hk; rw [this] at e; cases e.2)]
theorem left_gap {c m' : Nat} (h : m ≤ m') (hg : ∀ y, m ≤ y → y < m' → hasB F (y : Int) = false) : leftT g F s m' k c = leftT g F s m k c := by
  unfold leftT frN
  split
  · split
    · rw [cntP_gap h fun y h1 h2 => frP_no (.inl (hg y h1 h2))]
    · rfl
  · rfl
theorem left_skip {c : Nat} (h : gk g m = 0 ∨ gk g m = 1) : leftT g F s (m + 1) k c = leftT g F s m k c := by
  unfold leftT
  split
  · split
    · rw [frN_succ, frP_no (.inr (.inr (by omega)))]; rfl
    · rfl
  · rfl
/-- is a thing got: by what is left at its home -/
theorem left_find (hg' : rightG g = true) (_ : rightS s = true) (hx : x < g.length) {j d : Nat} (hj : gk g j = 2) (ho : overG g j x = true) (hd : gk g x = (d : Int)) (hF : hasB F (x : Int) = true) :
    findP g F s x = decide (0 < leftT g F s x j d) := by
  have hg := rightG_is hg'
  have hdk := under_kind hg hx hj ho
  rw [find_under hg hj hx ho]
  unfold leftT
  cases hsel : selP g F s j with
  | false => rw [if_neg (by simp)]; simp
  | true =>
    rw [if_pos rfl, Bool.true_and, if_pos (by omega)]
    have hn := frN_le (g := g) (F := F) (k := j) (m := x) (d : Int)
    have hfew := hg.few
    unfold getP
    rw [ho, hF, Bool.true_and, Bool.true_and]
    cases hw : s.whole with
    | true =>
      have hm : (frN g F (d : Int) j x : Int) < mostS s d := by
        unfold mostS
        rw [if_pos hw]
        rcases hdk with e | e | e
        · rw [if_pos (by omega)]
          have hxj : x = j := (node_node hg hx hj e ho).symm
          have h0 : frN g F (d : Int) j x = 0 := by
            refine cntP_zero fun y hy => ?_
            by_cases hoy : overG g j y = true
            · have := over_le hoy; omega
            · exact frP_no (.inr (.inl (by cases hb : overG g j y with | false => rfl | true => exact absurd hb hoy)))
          rw [h0]; omega
        · rw [if_neg (by omega), if_pos (by omega)]; omega
        · rw [if_neg (by omega), if_pos (by omega)]; omega
      rw [Bool.true_or]
      exact (decide_eq_true (by omega)).symm
    | false =>
      rw [Bool.false_or]
      have hp : frP g F (d : Int) j x = true := by unfold frP; rw [ho, hF, hd]; simp
      have hn1 := frN_succ g F (d : Int) j x
      rw [if_pos hp] at hn1
      unfold mostS
      rw [if_neg (by rw [hw]; simp)]
      rcases hdk with e | e | e
      · obtain rfl : d = 2 := by omega
        rw [e, if_neg (by omega), if_neg (by omega)]
        rw [show ((2 : Int) == 3) = false from rfl, show ((2 : Int) == 4) = false from rfl]
        simp; omega
      · obtain rfl : d = 3 := by omega
        rw [e, if_pos rfl]
        rw [show ((3 : Int) == 3) = true from rfl, show ((3 : Int) == 4) = false from rfl, Bool.true_and, Bool.false_and, Bool.or_false]
        exact decide_eq_decide.2 (by rw [show ((3 : Nat) : Int) = 3 from rfl] at hn1 ⊢; omega)
      · obtain rfl : d = 4 := by omega
        rw [e, if_neg (by omega), if_pos rfl]
        rw [show ((4 : Int) == 3) = false from rfl, show ((4 : Int) == 4) = true from rfl, Bool.false_and, Bool.true_and, Bool.false_or]
        exact decide_eq_decide.2 (by rw [show ((4 : Nat) : Int) = 4 from rfl] at hn1 ⊢; omega)
theorem left_else (hg : RightG g) (hx : x < g.length) {j d k c : Nat} (hj : gk g j = 2) (ho : overG g j x = true) (hd : gk g x = (d : Int)) (h : ¬ (k = j ∧ c = d)) : leftT g F s (x + 1) k c = leftT g F s x k c := by
  unfold leftT
  cases hsel : selP g F s k with
  | false => rfl
  | true =>
    rw [if_pos rfl, if_pos rfl]
    split
    · rw [frN_succ, frP_no]
      · rfl
      · by_cases hc : c = d
        · have hkj : k ≠ j := fun e => h ⟨e, hc⟩
          refine .inr (.inl ?_)
          cases ho2 : overG g k x with
          | false => rfl
          | true => exact absurd (under_one hg hx (suit_node (sel_suit hsel)) hj ho2 ho) hkj
        · exact .inr (.inr (by rw [hd]; omega))
    · rfl
/-- it is taken -/
theorem left_take (hg' : rightG g = true) (hx : x < g.length) {j d : Nat} (hj : gk g j = 2) (ho : overG g j x = true) (hd : gk g x = (d : Int)) (hF : hasB F (x : Int) = true) (hl : 0 < leftT g F s x j d) (c : Nat) :
    leftT g F s (x + 1) k c = upT (leftT g F s x) j d (leftT g F s x j d - 1) k c := by
  have hg := rightG_is hg'
  have hdk := under_kind hg hx hj ho
  have hp : frP g F (d : Int) j x = true := by unfold frP; rw [ho, hF, hd]; simp
  have hn1 := frN_succ g F (d : Int) j x
  rw [if_pos hp] at hn1
  unfold upT
  by_cases h : k = j ∧ c = d
  · obtain ⟨rfl, rfl⟩ := h
    rw [if_pos ⟨rfl, rfl⟩]
    unfold leftT at hl ⊢
    cases hsel : selP g F s k with
    | false => rw [hsel, if_neg (by simp)] at hl; omega
    | true =>
      rw [hsel, if_pos rfl, if_pos (by omega)] at hl
      rw [if_pos rfl, if_pos rfl, if_pos (by omega), if_pos (by omega), hn1]
      omega
  · rw [if_neg h]
    exact left_else hg hx hj ho hd h
/-- nothing is left: it isn't taken -/
theorem left_none (hg' : rightG g = true) (hx : x < g.length) {j d : Nat} (hj : gk g j = 2) (ho : overG g j x = true) (hd : gk g x = (d : Int)) (hl : ¬ 0 < leftT g F s x j d) (c : Nat) : leftT g F s (x + 1) k c = leftT g F s x k c := by
  have hg := rightG_is hg'
  have hdk := under_kind hg hx hj ho
  by_cases h : k = j ∧ c = d
  · obtain ⟨rfl, rfl⟩ := h
    have hn1 := frN_succ g F (c : Int) k x
    unfold leftT at hl ⊢
    cases hsel : selP g F s k with
    | false => rfl
    | true =>
      rw [hsel, if_pos rfl, if_pos (by omega)] at hl
      rw [if_pos rfl, if_pos rfl, if_pos (by omega), if_pos (by omega), hn1]
      split <;> omega
  · exact left_else hg hx hj ho hd h
/-- what has no home is not got -/
theorem find_homeless (hg' : rightG g = true) (hx : x < g.length) (h : gk g x = 0 ∨ gk g x = 1) : findP g F s x = false := by
  cases hf : findP g F s x with
  | false => rfl
  | true =>
    obtain ⟨j, hj, h1, h2⟩ := findP_is.1 hf
    have h3 := (get_free (sel_suit h1) hx h2).1
    have := under_kind (rightG_is hg') hx (suit_node (sel_suit h1)) h3
    omega
theorem find_unfree (hx : x < g.length) (h : hasB F (x : Int) = false) : findP g F s x = false := by
  cases hf : findP g F s x with
  | false => rfl
  | true =>
    obtain ⟨j, hj, h1, h2⟩ := findP_is.1 hf
    have h3 := (get_free (sel_suit h1) hx h2).2
    rw [h] at h3; cases h3
end

end Go.Proofs.YtpoalgkgomljmaaGreatDoor

namespace Go.Proofs.YtpoalgkgomljmaaGreatDoor
open Go.RowKit

/-- may a thing of the one kind be part of one of the other -/
def partK (k u : Int) : Bool := decide ((k = 1 ∧ u = 0) ∨ (k = 2 ∧ (u = 0 ∨ u = 1)) ∨ ((k = 3 ∨ k = 4) ∧ u = 2))
set_option maxRecDepth 100000 in
set_option maxHeartbeats 1000000 in
theorem partOf_any (k u : Int) (w : World) : Calls Tryz.prog 128 #[.int .i64 k, .int .i64 u] w fun e w' => e = .returned (.bool (partK k u)) ∧ w = w' := by
  have kd : ∀ (x q : Int), x = q ∨ ((x == q) = false ∧ x ≠ q) := fun x q => by
    by_cases h : x = q
    · exact .inl h
    · exact .inr ⟨by simpa using h, h⟩
  have KD := Lib.hid kd
  clear kd
  rcases KD.out k 1 with rfl | ⟨k1, n1⟩
  · rcases KD.out u 0 with rfl | ⟨u0, m0⟩
    · have e1 : Hid (partK 1 0 = true) := Lib.hid (by decide)
      go_enter Tryz.func128, Tryz.ntmps128
      go_wp2
      go_ret
      exact ⟨ret_bool e1.out, rfl⟩
    · have e1 : Hid (partK 1 u = false) := Lib.hid (by unfold partK; rw [decide_eq_false_iff_not]; omega)
      clear m0
      go_enter Tryz.func128, Tryz.ntmps128
      go_wp2
      go_ret
      exact ⟨ret_bool e1.out, rfl⟩
  · rcases KD.out k 2 with rfl | ⟨k2, n2⟩
    · clear k1 n1
      rcases KD.out u 0 with rfl | ⟨u0, m0⟩
      · have e1 : Hid (partK 2 0 = true) := Lib.hid (by decide)
        go_enter Tryz.func128, Tryz.ntmps128
        go_wp2
        go_ret
        exact ⟨ret_bool e1.out, rfl⟩
      · rcases KD.out u 1 with rfl | ⟨u1, m1⟩
        · have e1 : Hid (partK 2 1 = true) := Lib.hid (by decide)
          clear u0 m0
          go_enter Tryz.func128, Tryz.ntmps128
          go_wp2
          go_ret
          exact ⟨ret_bool e1.out, rfl⟩
        · have e1 : Hid (partK 2 u = false) := Lib.hid (by unfold partK; rw [decide_eq_false_iff_not]; omega)
          clear m0 m1
          go_enter Tryz.func128, Tryz.ntmps128
          go_wp2
          go_ret
          exact ⟨ret_bool e1.out, rfl⟩
    · rcases KD.out k 3 with rfl | ⟨k3, n3⟩
      · clear k1 n1 k2 n2
        rcases KD.out u 2 with rfl | ⟨u2, m2⟩
        · have e1 : Hid (partK 3 2 = true) := Lib.hid (by decide)
          go_enter Tryz.func128, Tryz.ntmps128
          go_wp2
          go_ret
          exact ⟨ret_bool e1.out, rfl⟩
        · have e1 : Hid (partK 3 u = false) := Lib.hid (by unfold partK; rw [decide_eq_false_iff_not]; omega)
          clear m2
          go_enter Tryz.func128, Tryz.ntmps128
          go_wp2
          go_ret
          exact ⟨ret_bool e1.out, rfl⟩
      · rcases KD.out k 4 with rfl | ⟨k4, n4⟩
        · clear k1 n1 k2 n2 k3 n3
          rcases KD.out u 2 with rfl | ⟨u2, m2⟩
          · have e1 : Hid (partK 4 2 = true) := Lib.hid (by decide)
            go_enter Tryz.func128, Tryz.ntmps128
            go_wp2
            go_ret
            exact ⟨ret_bool e1.out, rfl⟩
          · have e1 : Hid (partK 4 u = false) := Lib.hid (by unfold partK; rw [decide_eq_false_iff_not]; omega)
            clear m2
            go_enter Tryz.func128, Tryz.ntmps128
            go_wp2
            go_ret
            exact ⟨ret_bool e1.out, rfl⟩
        · have e1 : Hid (partK k u = false) := Lib.hid (by unfold partK; rw [decide_eq_false_iff_not]; omega)
          clear n1 n2 n3 n4
          go_enter Tryz.func128, Tryz.ntmps128
          go_wp2
          go_ret
          exact ⟨ret_bool e1.out, rfl⟩
theorem partOf_b {k u : Int} {w : World} {b : Bool} (h : partK k u = b) : Calls Tryz.prog 128 #[.int .i64 k, .int .i64 u] w fun e w' => e = .returned (.bool b) ∧ w = w' := by
  subst h; exact partOf_any k u w

/-- a byte that is a letter or a digit: what the two tests say -/
theorem tagC_parts (c : UInt8) : (tagC c = true ∧ ((decide (97 ≤ (c.toNat : Int)) = true ∧ decide ((c.toNat : Int) ≤ 122) = true ∧ decide (48 ≤ (c.toNat : Int)) = true ∧ decide ((c.toNat : Int) ≤ 57) = false) ∨
    (decide (97 ≤ (c.toNat : Int)) = false ∧ decide ((c.toNat : Int) ≤ 122) = true ∧ decide (48 ≤ (c.toNat : Int)) = true ∧ decide ((c.toNat : Int) ≤ 57) = true))) ∨
  (tagC c = false ∧ ((decide (97 ≤ (c.toNat : Int)) = false ∧ decide ((c.toNat : Int) ≤ 122) = true ∧ decide (48 ≤ (c.toNat : Int)) = false ∧ decide ((c.toNat : Int) ≤ 57) = true) ∨
    (decide (97 ≤ (c.toNat : Int)) = false ∧ decide ((c.toNat : Int) ≤ 122) = true ∧ decide (48 ≤ (c.toNat : Int)) = true ∧ decide ((c.toNat : Int) ≤ 57) = false) ∨
    (decide (97 ≤ (c.toNat : Int)) = true ∧ decide ((c.toNat : Int) ≤ 122) = false ∧ decide (48 ≤ (c.toNat : Int)) = true ∧ decide ((c.toNat : Int) ≤ 57) = false))) := by
  unfold tagC
  simp only [Bool.or_eq_true, Bool.and_eq_true, decide_eq_true_eq, decide_eq_false_iff_not, Bool.or_eq_false_iff, Bool.and_eq_false_iff]
  omega

def TagPost (s : ByteArray) (w : World) (e : Ending) (w' : World) : Prop := e = .returned (.bool (tagB s)) ∧ ∃ q, w' = w.drewN q
set_option maxRecDepth 100000 in
set_option maxHeartbeats 2000000 in
theorem tag_any (s : ByteArray) (w : World) (hs : s.size ≤ maxLen) :
    Calls Tryz.prog 71 #[.string s] w (TagPost s w) := by
  unfold maxLen at hs
  by_cases h16 : 16 < s.size
  · have e1 : Hid (tagB s = false) := Lib.hid (by unfold tagB; rw [decide_eq_false (by omega), Bool.and_false])
    go_enter Tryz.func71, Tryz.ntmps71
    go_wp2
    go_ret
    exact ⟨ret_bool e1.out, 0, rfl⟩
  · have h16d : decide ((16 : Int) < s.size) = false := by simp; omega
    go_enter Tryz.func71, Tryz.ntmps71
    go_wp2
    go_loopw [11] (fun i wr => ∃ k : Nat, k ≤ s.size ∧ i = .int .i64 k ∧ (s.data.toList.take k).all tagC = true ∧ ∃ q, wr = w.drewN q) (fun i _ => s.size - (intOf i).toNat)
    case atStart => exact ⟨0, Nat.zero_le _, rfl, rfl, 0, rfl⟩
    case round =>
      obtain ⟨k, hk, rfl, hpre, q, rfl⟩ := hrel
      have HP := Lib.hid hpre
      clear hpre
      by_cases hlt : k < s.size
      · have hs1 := Lib.hid (bytes_snoc s k hlt)
        rcases tagC_parts s[k] with ⟨hc, h⟩ | ⟨hc, h⟩
        · have e1 : Hid ((s.data.toList.take (k + 1)).all tagC = true) := Lib.hid (by rw [hs1.out, List.all_append, HP.out]; simp [hc])
          clear hc hs1
          rcases h with ⟨d0, d1, d2, d3⟩ | ⟨d0, d1, d2, d3⟩
          all_goals
            go_wp2
            go_quiet (fail)
            go_wp2
            go_roundw
            case rel => exact ⟨k + 1, by omega, by go_num, e1.out, q + _, rfl⟩
            case measure => simp [intOf]; omega
        · have e1 : Hid (tagB s = false) := Lib.hid (by
            unfold tagB
            have : s.data.toList.all tagC = false := by
              rw [List.all_eq_false]
              exact ⟨s[k], Array.getElem_mem_toList _, by rw [hc]; simp⟩
            rw [this]; rfl)
          clear hc hs1
          rcases h with ⟨d0, d1, d2, d3⟩ | ⟨d0, d1, d2, d3⟩ | ⟨d0, d1, d2, d3⟩
          all_goals
            go_wp2
            go_quiet (fail)
            go_wp2
            go_ret
            exact ⟨ret_bool e1.out, q + _, rfl⟩
      · have hkn : k = s.size := by omega
        have e1 : Hid (tagB s = true) := Lib.hid (by
          have := HP.out
          rw [List.take_of_length_le (by simp; omega)] at this
          unfold tagB
          rw [this, decide_eq_true (by omega)]; rfl)
        clear hkn
        go_wp2
        go_ret
        exact ⟨ret_bool e1.out, q, rfl⟩

end Go.Proofs.YtpoalgkgomljmaaGreatDoor

namespace Go.Proofs.YtpoalgkgomljmaaGreatDoor
open Go.RowKit

def taggedB (k : Int) (s : ByteArray) : Bool := decide (s.size = 0 ∨ (k = 2 ∧ tagB s = true))
set_option maxRecDepth 100000 in
set_option maxHeartbeats 2000000 in
theorem tagged_any (k u : Int) (s : ByteArray) (w : World) (hs : s.size ≤ maxLen) :
    Calls Tryz.prog 129 #[.agg #[.int .i64 k, .int .i64 u, .string s]] w fun e w' => e = .returned (.bool (taggedB k s)) ∧ Below w.heap.size w w' := by
  have HS := Lib.hid hs
  have HB : Hid (Below w.heap.size w (w.alloc (.cells #[.int .i64 k, .int .i64 u, .string s] 59))) := Lib.hid ((Below.refl _ _).alloc (Nat.le_refl _) _)
  by_cases h0 : s.size = 0
  · have e1 : Hid (taggedB k s = true) := Lib.hid (by unfold taggedB; exact decide_eq_true (.inl h0))
    obtain rfl := str_empty h0
    clear h0 hs
    go_enter Tryz.func129, Tryz.ntmps129
    go_wp2
    go_ret
    exact ⟨ret_bool e1.out, HB.out⟩
  · obtain ⟨f1, f2, f3, f4⟩ := str_facts h0
    by_cases h2 : k = 2
    · have e1 : Hid (taggedB k s = tagB s) := Lib.hid (by
        unfold taggedB
        rw [Bool.eq_iff_iff, decide_eq_true_eq]
        exact ⟨fun h => h.elim (fun h => absurd h h0) (fun h => h.2), fun h => .inr ⟨h2, h⟩⟩)
      subst h2
      clear h0 hs
      go_enter Tryz.func129, Tryz.ntmps129
      go_wp2_with fail
      refine (tag_any s _ HS.out).mono ?_
      rintro e w1 ⟨rfl, q, rfl⟩
      go_wp2
      go_ret
      exact ⟨ret_bool e1.out, bel_more HB.out q⟩
    · have e1 : Hid (taggedB k s = false) := Lib.hid (by
        unfold taggedB
        rw [decide_eq_false_iff_not]
        exact fun h => h.elim h0 (fun h => h2 h.1))
      have h2d : (k == 2) = false := by simpa using h2
      clear h0 h2 hs
      go_enter Tryz.func129, Tryz.ntmps129
      go_wp2
      go_ret
      exact ⟨ret_bool e1.out, HB.out⟩
theorem tagged_b {k u : Int} {s : ByteArray} {w : World} {b : Bool} (hs : s.size ≤ maxLen) (h : taggedB k s = b) :
    Calls Tryz.prog 129 #[.agg #[.int .i64 k, .int .i64 u, .string s]] w fun e w' => e = .returned (.bool b) ∧ Below w.heap.size w w' := by
  subst h; exact tagged_any k u s w hs

theorem okT_kind {g : Gr} {j : Nat} (h : okT g j) : 0 ≤ gk g j := by
  rcases Nat.eq_zero_or_pos j with rfl | hj
  · have := ((okT_zero g).1 h).1; omega
  · have := ((okT_pos hj).1 h).2.2.2.2; omega
theorem tagB_empty : tagB ⟨#[]⟩ = true := by decide
/-- behind things that stand right, the program's four tests say whether this one does -/
theorem okT_tests {g : Gr} {k : Nat} (hk : 0 < k) (hp : ∀ j, j < k → okT g j) :
    okT g k ↔ 0 ≤ gu g k ∧ gu g k < k ∧ partK (gk g k) (gk g (gu g k).toNat) = true ∧ taggedB (gk g k) (gt g k) = true := by
  rw [okT_pos hk]
  unfold partK taggedB
  rw [decide_eq_true_eq, decide_eq_true_eq]
  have ht : (gt g k).size = 0 → tagB (gt g k) = true := fun h => by rw [str_empty h]; exact tagB_empty
  constructor
  · rintro ⟨h1, h2, h3, h4, h5⟩
    have hv := okT_kind (hp (gu g k).toNat (by omega))
    refine ⟨h1, h2, by omega, ?_⟩
    rcases h3 with h3 | h3
    · exact .inl h3
    · exact .inr ⟨h3, h4⟩
  · rintro ⟨h1, h2, h3, h4⟩
    refine ⟨h1, h2, h4.imp id (·.1), ?_, by omega⟩
    rcases h4 with h4 | h4
    · exact ht h4
    · exact h4.2

set_option maxRecDepth 100000 in
set_option maxHeartbeats 8000000 in
theorem graphRight_any (A : Option Addr) (n c : Nat) (g : Gr) (w : World) (hr : RG w w.heap.size A n g) (hn : n ≤ maxLen) :
    Calls Tryz.prog 105 #[.slice A n c] w fun e w' => e = .returned (.bool (rightG g)) ∧ Below w.heap.size w w' := by
  unfold maxLen at hn
  have HR := Lib.hid hr
  clear hr
  by_cases h0 : n = 0
  · have e1 : Hid (rightG g = false) := Lib.hid (by unfold rightG; rw [decide_eq_false_iff_not]; exact fun h => h.1 (List.eq_nil_of_length_eq_zero (by rw [HR.out.len]; exact h0)))
    subst h0
    go_enter Tryz.func105, Tryz.ntmps105
    go_wp2
    go_ret
    exact ⟨ret_bool e1.out, Below.refl _ _⟩
  · by_cases h256 : 256 < n
    · have e1 : Hid (rightG g = false) := Lib.hid (by unfold rightG; rw [decide_eq_false_iff_not, HR.out.len]; omega)
      have h0p : 0 < n := by omega
      have hn0 : ((n : Int) == 0) = false := by simp; omega
      go_enter Tryz.func105, Tryz.ntmps105
      go_wp2
      go_ret
      exact ⟨ret_bool e1.out, Below.refl _ _⟩
    · have h0p : 0 < n := by omega
      have h256d : decide (256 < (n : Int)) = false := by simp; omega
      have hn0 : ((n : Int) == 0) = false := by simp; omega
      obtain ⟨b, off, rfl, hbw, hc0, hc1, hc2, _⟩ := HR.out.one h0p
      simp only [Nat.zero_mul, Nat.add_zero] at hc0 hc1 hc2
      have hkg : Hid (0 < g.length) := Lib.hid (by rw [HR.out.len]; exact h0p)
      obtain ⟨kk, hkk⟩ : ∃ kk, gk g 0 = kk := ⟨_, rfl⟩
      obtain ⟨uu, huu⟩ : ∃ uu, gu g 0 = uu := ⟨_, rfl⟩
      obtain ⟨ss, hss⟩ : ∃ ss, gt g 0 = ss := ⟨_, rfl⟩
      rw [hkk] at hc0
      rw [huu] at hc1
      rw [hss] at hc2
      have hno : Hid (¬ (kk = 0 ∧ uu = -1 ∧ ss.size = 0) → rightG g = false) := Lib.hid (fun h => rightG_no hkg.out (by rw [okT_zero, hkk, huu, hss]; exact h))
      have hyes : Hid ((kk = 0 ∧ uu = -1 ∧ ss.size = 0) → ∀ j, j < 1 → okT g j) := Lib.hid (fun h j hj => by
        obtain rfl : j = 0 := by omega
        rw [okT_zero, hkk, huu, hss]; exact h)
      clear hkk huu hss h0 h256
      by_cases h1 : kk = 0
      · by_cases h2 : uu = -1
        · by_cases h3 : ss.size = 0
          · obtain rfl := str_empty h3
            have e1 := Lib.hid (hyes.out ⟨h1, h2, h3⟩)
            clear hno hyes h3
            subst h1 h2
            go_enter Tryz.func105, Tryz.ntmps105
            go_wp2
            go_loopw [3] (fun i wr => ∃ k : Nat, 1 ≤ k ∧ k ≤ n ∧ i = .int .i64 k ∧ (∀ j, j < k → okT g j) ∧ Below w.heap.size w wr) (fun i _ => n - (intOf i).toNat)
            case atStart => exact ⟨1, Nat.le_refl _, h0p, rfl, e1.out, Below.refl _ _⟩
            case round =>
              clear hc0 hc1 hc2
              obtain ⟨k, hk1, hk, rfl, hpre, hb⟩ := hrel
              have HP := Lib.hid hpre
              have HB := Lib.hid hb
              clear hpre hb
              by_cases hlt : k < n
              · have hRw := Lib.hid (HR.out.next HB.out)
                obtain ⟨b', off', e', hbw', hc0, hc1, hc2, hbd⟩ := hRw.out.one hlt
                injection e' with e'
                injection e' with e1' e2'
                subst e1' e2'
                have hsz := Lib.hid hbd.2.2
                clear hbd
                have HT := Lib.hid (okT_tests hk1 HP.out)
                have hkg : Hid (k < g.length) := Lib.hid (by rw [HR.out.len]; exact hlt)
                have hno : Hid (¬ okT g k → rightG g = false) := Lib.hid (fun h => rightG_no hkg.out h)
                have hyes : Hid (okT g k → ∀ j, j < k + 1 → okT g j) := Lib.hid (fun h j hj => by
                  rcases Nat.lt_or_ge j k with h' | h'
                  · exact HP.out j h'
                  · obtain rfl : j = k := by omega
                    exact h)
                have hvk : Hid (∀ u : Nat, u < k → ∃ v, gk g u = v ∧ wr.cell? ⟨b, off + u * 3, none⟩ = some (.int .i64 v)) := Lib.hid (fun u hu => by
                  obtain ⟨b', off', e', _, hcu, _, _, _⟩ := hRw.out.one (show u < n by omega)
                  injection e' with e'
                  injection e' with e1' e2'
                  subst e1' e2'
                  exact ⟨_, rfl, hcu⟩)
                obtain ⟨kk, hkk⟩ : ∃ kk, gk g k = kk := ⟨_, rfl⟩
                obtain ⟨uu, huu⟩ : ∃ uu, gu g k = uu := ⟨_, rfl⟩
                obtain ⟨ss, hss⟩ : ∃ ss, gt g k = ss := ⟨_, rfl⟩
                have HT2 : Hid (okT g k ↔ 0 ≤ uu ∧ uu < k ∧ partK kk (gk g uu.toNat) = true ∧ taggedB kk ss = true) := Lib.hid (by have := HT.out; rwa [hkk, huu, hss] at this)
                rw [hkk] at hc0
                rw [huu] at hc1
                rw [hss] at hc2 hsz
                clear hkk huu hss HT
                by_cases h1 : uu < 0
                · have e2 := Lib.hid (hno.out (fun h => by have := (HT2.out.1 h).1; omega))
                  have h1d : decide (uu < 0) = true := by simpa using h1
                  clear hno hyes hvk HT2
                  go_wp2
                  go_quiet (fail)
                  go_wp2
                  go_ret
                  exact ⟨ret_bool e2.out, bel_more HB.out _⟩
                · have h1d : decide (uu < 0) = false := by simpa using h1
                  by_cases h2 : (k : Int) ≤ uu
                  · have e2 := Lib.hid (hno.out (fun h => by have := (HT2.out.1 h).2.1; omega))
                    have h2d : decide ((k : Int) ≤ uu) = true := by simpa using h2
                    clear hno hyes hvk HT2
                    go_wp2
                    go_quiet (fail)
                    go_wp2
                    go_ret
                    exact ⟨ret_bool e2.out, bel_more HB.out _⟩
                  · obtain ⟨u, rfl⟩ : ∃ u : Nat, uu = (u : Int) := ⟨uu.toNat, by omega⟩
                    have huk : u < k := by omega
                    have h2d : decide (k ≤ u) = false := by simp; omega
                    obtain ⟨v, hv, hcu⟩ := hvk.out u huk
                    have HT3 : Hid (okT g k ↔ partK kk v = true ∧ taggedB kk ss = true) := Lib.hid (by
                      have := HT2.out
                      rw [Int.toNat_natCast, hv] at this
                      rw [this]
                      exact ⟨fun h => h.2.2, fun h => ⟨by omega, by omega, h⟩⟩)
                    have hun : (u : Int) < (n : Int) := by omega
                    clear hvk HT2 hv h1 h2
                    cases hpk : partK kk v with
                    | false =>
                      have e2 := Lib.hid (hno.out (fun h => by have := (HT3.out.1 h).1; rw [hpk] at this; cases this))
                      have HPK : Hid (∀ q : Nat, Calls Tryz.prog 128 #[.int .i64 kk, .int .i64 v] (wr.drewN q) fun e w' => e = .returned (.bool false) ∧ w' = wr.drewN q) :=
                        Lib.hid (fun q => (partOf_b hpk).mono fun e w' ⟨h1, h2⟩ => ⟨h1, h2.symm⟩)
                      clear hno hyes HT3 hpk
                      go_wp2
                      go_quiet ((go_at_call 128; exact Calls.quiet_of_same (HPK.out _)))
                      go_wp2
                      go_ret
                      exact ⟨ret_bool e2.out, bel_more HB.out _⟩
                    | true =>
                      have HPK : Hid (∀ wx : World, Calls Tryz.prog 128 #[.int .i64 kk, .int .i64 v] wx fun e w' => e = .returned (.bool true) ∧ wx = w') := Lib.hid (fun _ => partOf_b hpk)
                      obtain ⟨tv, htv⟩ : ∃ tv, taggedB kk ss = tv := ⟨_, rfl⟩
                      have HTG := Lib.hid (tagged_b (k := kk) (u := (u : Int)) (w := wr.drew) hsz.out htv)
                      have hbu : b < wr.heap.size := hbw'
                      have HKEEP : Hid (∀ wx, Below wr.drew.heap.size wr.drew wx → wx.cell? ⟨b, off + k * 3, none⟩ = some (.int .i64 kk) ∧ wx.cell? ⟨b, off + k * 3 + 1, none⟩ = some (.int .i64 (u : Int)) ∧ wx.cell? ⟨b, off + k * 3 + 2, none⟩ = some (.string ss) ∧ wx.cell? ⟨b, off + u * 3, none⟩ = some (.int .i64 v)) :=
                        Lib.hid (fun wx hb => ⟨(hb.cell (p := ⟨b, off + k * 3, none⟩) hbu).trans hc0, (hb.cell (p := ⟨b, off + k * 3 + 1, none⟩) hbu).trans hc1, (hb.cell (p := ⟨b, off + k * 3 + 2, none⟩) hbu).trans hc2, (hb.cell (p := ⟨b, off + u * 3, none⟩) hbu).trans hcu⟩)
                      have e3 : Hid (tv = false → rightG g = false) := Lib.hid (fun h => hno.out (fun ho => by have := (HT3.out.1 ho).2; rw [htv, h] at this; cases this))
                      have e4 : Hid (tv = true → ∀ j, j < k + 1 → okT g j) := Lib.hid (fun h => hyes.out (HT3.out.2 ⟨hpk, by rw [htv, h]⟩))
                      clear hno hyes HT3 hpk htv
                      cases tv with
                      | false =>
                        have e2 := Lib.hid (e3.out rfl)
                        clear e3 e4
                        go_wp2
                        go_region_held3 (fun w' => w'.cell? ⟨b, off + k * 3, none⟩ = some (.int .i64 kk) ∧ w'.cell? ⟨b, off + k * 3 + 1, none⟩ = some (.int .i64 (u : Int)) ∧ w'.cell? ⟨b, off + k * 3 + 2, none⟩ = some (.string ss) ∧ w'.cell? ⟨b, off + u * 3, none⟩ = some (.int .i64 v))
                          (first | go_keep | exact HKEEP.out _ HB3.out)
                          (first | (go_at_call 128; (with_reducible refine (HPK.out _).mono ?_); rintro e w4 ⟨rfl, rfl⟩) | (go_at_call 129; (with_reducible refine (HTG.out).mono ?_); rintro e w3 ⟨rfl, hb3⟩; have HB3 := Lib.hid hb3; clear hb3))
                        have HBX := Lib.hid (HB.out.trans ((bel_und HB3.out).mono HB.out.size))
                        clear hc0 hc1 hc2 hcu
                        go_wp2
                        go_ret
                        exact ⟨ret_bool e2.out, HBX.out⟩
                      | true =>
                        have e2 := Lib.hid (e4.out rfl)
                        clear e3 e4
                        go_wp2
                        go_region_held3 (fun w' => w'.cell? ⟨b, off + k * 3, none⟩ = some (.int .i64 kk) ∧ w'.cell? ⟨b, off + k * 3 + 1, none⟩ = some (.int .i64 (u : Int)) ∧ w'.cell? ⟨b, off + k * 3 + 2, none⟩ = some (.string ss) ∧ w'.cell? ⟨b, off + u * 3, none⟩ = some (.int .i64 v))
                          (first | go_keep | exact HKEEP.out _ HB3.out)
                          (first | (go_at_call 128; (with_reducible refine (HPK.out _).mono ?_); rintro e w4 ⟨rfl, rfl⟩) | (go_at_call 129; (with_reducible refine (HTG.out).mono ?_); rintro e w3 ⟨rfl, hb3⟩; have HB3 := Lib.hid hb3; clear hb3))
                        have HBX := Lib.hid (HB.out.trans ((bel_und HB3.out).mono HB.out.size))
                        clear hc0 hc1 hc2 hcu
                        go_wp2
                        go_roundw
                        case rel => exact ⟨k + 1, by omega, by omega, by go_num, e2.out, HBX.out⟩
                        case measure => simp [intOf]; omega
              · have hkn : k = n := by omega
                have e2 : Hid (rightG g = true) := Lib.hid (by
                  unfold rightG
                  rw [decide_eq_true_eq, HR.out.len]
                  exact ⟨fun h => by have := HR.out.len; rw [h] at this; simp at this; omega, by simp at h256d; omega, fun j hj => HP.out j (by omega)⟩)
                clear hkn
                go_wp2
                go_ret
                exact ⟨ret_bool e2.out, HB.out⟩
          · have e1 := Lib.hid (hno.out (fun h => h3 h.2.2))
            obtain ⟨f1, f2, f3, f4⟩ := str_facts h3
            clear hno hyes h3
            subst h1 h2
            go_enter Tryz.func105, Tryz.ntmps105
            go_wp2
            go_ret
            exact ⟨ret_bool e1.out, Below.refl _ _⟩
        · have e1 := Lib.hid (hno.out (fun h => h2 h.2.1))
          have h2d : (uu == -1) = false := by simpa using h2
          clear hno hyes h2
          subst h1
          go_enter Tryz.func105, Tryz.ntmps105
          go_wp2
          go_ret
          exact ⟨ret_bool e1.out, Below.refl _ _⟩
      · have e1 := Lib.hid (hno.out (fun h => h1 h.1))
        have h1d : (kk == 0) = false := by simpa using h1
        clear hno hyes h1
        go_enter Tryz.func105, Tryz.ntmps105
        go_wp2
        go_ret
        exact ⟨ret_bool e1.out, Below.refl _ _⟩

theorem graphRight_b {A : Option Addr} {n c : Nat} {g : Gr} {w : World} {b : Bool} (hr : RG w w.heap.size A n g) (hn : n ≤ maxLen) (h : rightG g = b) :
    Calls Tryz.prog 105 #[.slice A n c] w fun e w' => e = .returned (.bool b) ∧ Below w.heap.size w w' := by
  subst h; exact graphRight_any A n c g w hr hn

end Go.Proofs.YtpoalgkgomljmaaGreatDoor

namespace Go.Proofs.YtpoalgkgomljmaaGreatDoor
open Go.RowKit

/-- the cells of marks -/
def marksA (p : Nat → Bool) : Array Value := ((List.range 256).map fun k => Value.bool (p k)).toArray
theorem marksA_size (p : Nat → Bool) : (marksA p).size = 256 := by unfold marksA; simp
theorem marksA_at (p : Nat → Bool) {k : Nat} (hk : k < 256) : (marksA p)[k]? = some (.bool (p k)) := by unfold marksA; simp [hk]
/-- one mark more, or less -/
def mset (p : Nat → Bool) (k : Nat) (b : Bool) : Nat → Bool := fun j => if j = k then b else p j
theorem mset_same (p : Nat → Bool) (k : Nat) (b : Bool) : mset p k b k = b := by unfold mset; rw [if_pos rfl]
theorem mset_other (p : Nat → Bool) {k j : Nat} (b : Bool) (h : j ≠ k) : mset p k b j = p j := by unfold mset; rw [if_neg h]
theorem marksA_set (p : Nat → Bool) (k : Nat) (b : Bool) : (marksA p).setIfInBounds k (.bool b) = marksA (mset p k b) := by
  apply Array.ext
  · simp [marksA_size]
  · intro j h1 h2
    rw [marksA_size] at h2
    have e2 := marksA_at (mset p k b) h2
    rw [Array.getElem?_eq_getElem (by rw [marksA_size]; exact h2)] at e2
    have e2' := Option.some.inj e2
    rw [e2', Array.getElem_setIfInBounds (by rw [marksA_size]; exact h2)]
    split
    · rename_i h; subst h; rw [mset_same]
    · rename_i h
      have e1 := marksA_at p h2
      rw [Array.getElem?_eq_getElem (by rw [marksA_size]; exact h2)] at e1
      rw [Option.some.inj e1, mset_other _ _ (fun e => h e.symm)]
theorem marksA_ext {p q : Nat → Bool} (h : ∀ k, k < 256 → p k = q k) : marksA p = marksA q := by
  unfold marksA
  congr 1
  apply List.map_congr_left
  intro k hk
  rw [h k (List.mem_range.1 hk)]

theorem marks_closed : (Tryz.prog.info? 101).map (fun i => (i.zero.map Value.cells, i.size)) = some (some (marksA fun _ => false), 256) := by kernel_rfl
theorem marks_size : (Tryz.prog.info? 101).map (·.size) = some 256 := by kernel_rfl

/-- marks in a new block, behind a world -/
structure Marks (W : World) (p : Nat → Bool) (wr : World) : Prop where
  bel : Below W.heap.size W wr
  at' : wr.heap[W.heap.size]? = some (.cells (marksA p) 101 (0, 0))
section
variable {W wr w' : World} {p : Nat → Bool} {k : Nat}
theorem Marks.lt (h : Marks W p wr) : W.heap.size < wr.heap.size := (Array.getElem?_eq_some_iff.1 h.at').1
theorem Marks.cell (h : Marks W p wr) (hk : k < 256) : wr.cell? ⟨W.heap.size, k, none⟩ = some (.bool (p k)) := by
  rw [cell_of_row _ _ _ _ _ _ h.at', marksA_at p hk]
theorem Marks.frozen (h : Marks W p wr) (k : Nat) : wr.frozen? ⟨W.heap.size, k, none⟩ = false := frozen_of_row _ _ _ _ _ h.at'
theorem Marks.next (h : Marks W p wr) (hb : Below wr.heap.size wr w') : Marks W p w' := ⟨h.bel.trans (hb.mono h.bel.size), (hb.block _ h.lt).trans h.at'⟩
theorem Marks.drewN (h : Marks W p wr) (q : Nat) : Marks W p (wr.drewN q) := h.next (bel_drew wr q)
theorem Marks.set (h : Marks W p wr) (b : Bool) : Marks W (mset p k b) (wr.setCell ⟨W.heap.size, k, none⟩ (.bool b)) := by
  refine ⟨h.bel.setCell (Nat.le_refl _) _, ?_⟩
  rw [heap_setCell_same wr W.heap.size k _ _ _ h.at', marksA_set]
theorem Marks.ext {q : Nat → Bool} (h : Marks W p wr) (he : ∀ k, k < 256 → p k = q k) : Marks W q wr := ⟨h.bel, by rw [h.at', marksA_ext he]⟩
theorem marks_made (W : World) : Marks W (fun _ => false) (W.alloc (.cells (marksA fun _ => false) 101)) :=
  ⟨(Below.refl _ _).alloc (Nat.le_refl _) _, heap_alloc_new W _⟩
theorem marks_boxed (W : World) (p : Nat → Bool) : Marks W p (W.alloc (.cells (marksA p) 101)) :=
  ⟨(Below.refl _ _).alloc (Nat.le_refl _) _, heap_alloc_new W _⟩
end

/-- 'var in marks' -/
theorem wpList_alloc_marks {ops : Array Oper} {rest : List Oper} {o : Oper} {a : Act} {Q : Exit → Act → World → Prop} {w : World} (hgd : o.guard = none) (ho : o.op = .alloc 101)
    (h : ∀ w', Marks w (fun _ => false) w' → wpList Tryz.prog ops Q rest (a.put o.dst (.pointer (some ⟨w.heap.size, 0, none⟩))) w') : wpList Tryz.prog ops Q (o :: rest) a w := by
  refine wpList_plain hgd fun K hK => ?_
  have hc := marks_closed
  cases hi : Tryz.prog.info? 101 with
  | none => rw [hi] at hc; cases hc
  | some i =>
    rw [hi] at hc
    simp only [Option.map_some, Option.some.injEq, Prod.mk.injEq] at hc
    obtain ⟨z, hz, hzc⟩ : ∃ z, i.zero = some z ∧ z.cells = marksA fun _ => false := by
      cases hz : i.zero with
      | none => rw [hz] at hc; cases hc.1
      | some z => rw [hz] at hc; exact ⟨z, rfl, Option.some.inj hc.1⟩
    have hrun : (Instr.alloc 101 true (.tuple #[])).run Tryz.prog w = .ok (.pointer (some ⟨w.heap.size, 0, none⟩)) (w.alloc (.cells (marksA fun _ => false) 101)) := by
      simp [Instr.alloc, zeroValue, typeInfo, hi, hz, newVar, newRow, hzc]
    unfold Oper.wp
    simp [execOp, ho, hrun, Result.andThen]
    exact hK _ _ (h _ (marks_made w))
/-- 'in', as a value -/
theorem wpList_load_marks {ops : Array Oper} {rest : List Oper} {o : Oper} {a : Act} {Q : Exit → Act → World → Prop} {W w : World} {p : Nat → Bool} (hgd : o.guard = none) (x : Operand) (ho : o.op = .load 101 x)
    (hm : Marks W p w) (hx : a.eval x = .pointer (some ⟨W.heap.size, 0, none⟩))
    (h : wpList Tryz.prog ops Q rest (a.put o.dst (.agg (marksA p))) w) : wpList Tryz.prog ops Q (o :: rest) a w :=
  wpList_load_row hgd _ x ho W.heap.size hx _ (marksA p) (0, 0) _ hm.at' Tryz.underlying101 rfl (by rw [marks_size, marksA_size]) h
/-- a mark of a value of marks -/
theorem run_ix_marks (p : Nat → Bool) {k : Nat} (hk : k < 256) (W : World) : (Instr.index 101 (.agg (marksA p)) (.int .i64 (k : Int))).run Tryz.prog W = .ok (.bool (p k)) W := by
  have h1 := marksA_at p hk
  have h2 : k < 256 := hk
  simp [Instr.index, run_underlying Tryz.underlying101, asIntOf, part, isAgg, run_underlying Tryz.underlying4, Tryz.sizeOf4, h1, h2]

end Go.Proofs.YtpoalgkgomljmaaGreatDoor

namespace Go.Proofs.YtpoalgkgomljmaaGreatDoor
open Go.RowKit

def thereB (g : Gr) (a : Int) : Bool := decide (0 ≤ a ∧ a < g.length) && rightG g
theorem thereB_no {g : Gr} {a : Int} (h : ¬ (0 ≤ a ∧ a < g.length)) : thereB g a = false := by unfold thereB; rw [decide_eq_false h, Bool.false_and]
theorem thereB_is {g : Gr} {a : Int} : thereB g a = true ↔ rightG g = true ∧ 0 ≤ a ∧ a < g.length := by
  unfold thereB
  rw [Bool.and_eq_true, decide_eq_true_eq]
  exact ⟨fun h => ⟨h.2, h.1⟩, fun h => ⟨h.2, h.1⟩⟩
set_option maxRecDepth 100000 in
set_option maxHeartbeats 1000000 in
theorem there_any (A : Option Addr) (n c : Nat) (g : Gr) (a : Int) (w : World) (hr : RG w w.heap.size A n g) (hn : n ≤ maxLen) :
    Calls Tryz.prog 78 #[.slice A n c, .int .i64 a] w fun e w' => e = .returned (.bool (thereB g a)) ∧ Below w.heap.size w w' := by
  have HN := Lib.hid hn
  have HR := Lib.hid hr
  have HL := Lib.hid hr.len
  clear hr hn
  by_cases h0 : 0 ≤ a
  · have h0d : decide (0 ≤ a) = true := by simpa using h0
    by_cases h1 : a < n
    · have h1d : decide (a < (n : Int)) = true := by simpa using h1
      have e1 : Hid (thereB g a = rightG g) := Lib.hid (by unfold thereB; rw [decide_eq_true ⟨h0, by rw [HL.out]; exact h1⟩, Bool.true_and])
      go_enter Tryz.func78, Tryz.ntmps78
      go_wp2_with fail
      refine (graphRight_any _ _ _ _ _ HR.out HN.out).mono ?_
      rintro e w1 ⟨rfl, hb⟩
      have HB := Lib.hid hb
      clear hb
      go_wp2
      go_ret
      exact ⟨ret_bool e1.out, HB.out⟩
    · have h1d : decide (a < (n : Int)) = false := by simpa using h1
      have e1 : Hid (thereB g a = false) := Lib.hid (thereB_no (fun h => h1 (by have := HL.out; omega)))
      go_enter Tryz.func78, Tryz.ntmps78
      go_wp2
      go_ret
      exact ⟨ret_bool e1.out, Below.refl _ _⟩
  · have h0d : decide (0 ≤ a) = false := by simpa using h0
    have e1 : Hid (thereB g a = false) := Lib.hid (thereB_no (fun h => h0 h.1))
    go_enter Tryz.func78, Tryz.ntmps78
    go_wp2
    go_ret
    exact ⟨ret_bool e1.out, Below.refl _ _⟩
theorem there_b {A : Option Addr} {n c : Nat} {g : Gr} {a : Int} {w : World} {b : Bool} (hr : RG w w.heap.size A n g) (hn : n ≤ maxLen) (h : thereB g a = b) :
    Calls Tryz.prog 78 #[.slice A n c, .int .i64 a] w fun e w' => e = .returned (.bool b) ∧ Below w.heap.size w w' := by
  subst h; exact there_any A n c g a w hr hn

set_option maxRecDepth 100000 in
set_option maxHeartbeats 2000000 in
theorem marksList_any (p : Nat → Bool) (w : World) :
    Calls Tryz.prog 79 #[.agg (marksA p)] w (IPost (numsF p 256) w) := by
  obtain ⟨i0, hi0, hz0, hz1, hz2⟩ := info_parts int_info
  have HM := Lib.hid (marks_boxed w p)
  go_enter Tryz.func79, Tryz.ntmps79
  go_wp2_with (with_reducible refine wpList_load_marks rfl _ rfl HM.out rfl ?_; refine Hid.out ?_)
  refine Lib.hid ?_
  have HB0 := Lib.hid HM.out.bel
  generalize w.alloc (.cells (marksA p) 101) = w1 at *
  clear HM
  go_wp2
  go_loopw [3, 7] (fun v i wr => ∃ k : Nat, k ≤ 256 ∧ i = .int .i64 k ∧ ON EI 1 3 w1 v (numsF p k) wr) (fun _ i _ => 256 - (intOf i).toNat)
  case atStart => exact ⟨0, Nat.zero_le _, rfl, ON.nil _⟩
  case round =>
    obtain ⟨k, hk, rfl, hf⟩ := hrel
    have HF := Lib.hid hf
    clear hf
    by_cases hlt : k < 256
    · have hlen : Hid ((numsF p k).length ≤ 1000) := Lib.hid (by have := numsF_len p k; omega)
      have hix := run_ix_marks p hlt
      cases hp : p k with
      | true =>
        have HS := Lib.hid (numsF_yes hp)
        rw [hp] at hix
        clear hp
        go_wp2_with (at_builtin; refine wpList_append_EI rfl (.tmp 12) (.tmp 14) 23 3 rfl HF.out i0 Tryz.underlying23 hi0 hz0 hz1 hz2 rfl _ rfl hlen.out ?_; intro v' w4 hON4; refine Hid.out ?_)
        refine Lib.hid ?_
        have HO4 := Lib.hid hON4
        clear hON4 hix
        go_wp2
        go_roundw
        case rel => exact ⟨k + 1, by omega, by go_num, by rw [HS.out]; exact HO4.out⟩
        case measure => simp [intOf]; omega
      | false =>
        have HS := Lib.hid (numsF_no hp)
        rw [hp] at hix
        clear hp
        go_wp2
        go_roundw
        case rel => exact ⟨k + 1, by omega, by go_num, by rw [HS.out]; exact HF.out⟩
        case measure => simp [intOf]; omega
    · have hkn : k = 256 := by omega
      subst hkn
      go_wp2
      go_ret
      exact HF.out.ipost.trans HB0.out
theorem marksList_l {p : Nat → Bool} {w : World} {l : List Int} (h : numsF p 256 = l) :
    Calls Tryz.prog 79 #[.agg (marksA p)] w (IPost l w) := by
  subst h; exact marksList_any p w
/-- marks of the first n things alone -/
theorem numsF_cut {p : Nat → Bool} {n : Nat} : ∀ {m : Nat}, n ≤ m → numsF (fun j => decide (j < n) && p j) m = numsF p n := by
  intro m hm
  induction m with
  | zero =>
    obtain rfl : n = 0 := by omega
    rfl
  | succ m ih =>
    by_cases h : n = m + 1
    · subst h
      exact numsF_ext (fun k hk => by rw [decide_eq_true hk, Bool.true_and])
    · rw [numsF_no (by rw [decide_eq_false (by omega), Bool.false_and])]
      exact ih (by omega)


end Go.Proofs.YtpoalgkgomljmaaGreatDoor
