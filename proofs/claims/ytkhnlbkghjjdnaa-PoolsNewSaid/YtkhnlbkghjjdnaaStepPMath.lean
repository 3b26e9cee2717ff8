/- Plain facts for the program's step (layer 3): which step tells of a time, one step more at a time, the least and the most of the steps of a span, the first time by going from step to step. No program's text is walked here. -/
import Derived.Test.YtkhnlbkghjjdnaaStepLaws
namespace Go.Proofs.Ytkhnlbkghjjdnaa

/-! ### Which step tells of a time -/
def pos : Prof → Int → Nat
  | [], _ => 0
  | s :: r, t => if s.1 ≤ t then pos r t + 1 else 0
/-- times that don't fall -/
def Up : Int → Prof → Prop
  | _, [] => True
  | a, s :: r => a ≤ s.1 ∧ Up s.1 r
theorem pos_le : ∀ (p : Prof) (t : Int), pos p t ≤ p.length
  | [], _ => Nat.le_refl _
  | s :: r, t => by
    unfold pos
    split
    · have := pos_le r t; simp only [List.length_cons]; omega
    · omega
theorem pos_lt : ∀ (p : Prof) (t : Int) (i : Nat), i < pos p t → (p.getD i (0, 0)).1 ≤ t
  | [], _, i, h => absurd h (by unfold pos; omega)
  | s :: r, t, i, h => by
    unfold pos at h
    split at h
    · match i with
      | 0 => simpa using ‹s.1 ≤ t›
      | i + 1 => exact pos_lt r t i (by omega)
    · omega
theorem Up.ge : ∀ {p : Prof} {a : Int}, Up a p → ∀ i, i < p.length → a ≤ (p.getD i (0, 0)).1
  | [], _, _, i, h => absurd h (by simp)
  | s :: r, a, h, i, hi => by
    match i with
    | 0 => exact h.1
    | i + 1 =>
      have h1 : s.1 ≤ (r.getD i (0, 0)).1 := h.2.ge i (by simpa using hi)
      exact Int.le_trans h.1 h1
theorem pos_ge : ∀ {p : Prof} {a : Int}, Up a p → ∀ (t : Int) (i : Nat), pos p t ≤ i → i < p.length → t < (p.getD i (0, 0)).1
  | [], _, _, _, i, _, h => absurd h (by simp)
  | s :: r, a, h, t, i, hp, hi => by
    unfold pos at hp
    split at hp
    · match i with
      | 0 => omega
      | i + 1 => exact pos_ge h.2 t i (by omega) (by simpa using hi)
    · have h1 := (show Up s.1 (s :: r) from ⟨Int.le_refl _, h.2⟩).ge i hi
      omega
theorem tail_up : ∀ {p : Prof} {a f : Int}, Tail a f p → Up a p
  | [], _, _, _ => trivial
  | (_, _) :: _, _, _, h => ⟨Int.le_of_lt h.1, tail_up h.2.2.2⟩
theorem canon_up {p : Prof} (hp : Canon p) : Up 0 p := by
  obtain ⟨f, r, rfl, h⟩ := canon_form hp
  exact ⟨Int.le_refl _, tail_up h⟩
theorem at_pos : ∀ (p : Prof) (f t : Int), atT f p t = if pos p t = 0 then f else (p.getD (pos p t - 1) (0, 0)).2
  | [], f, t => rfl
  | (b, g) :: r, f, t => by
    unfold atT pos
    by_cases h : b ≤ t
    · rw [if_pos h, if_pos (show (b, g).1 ≤ t from h), at_pos r g t, if_neg (show ¬ (pos r t + 1 = 0) by omega)]
      by_cases h0 : pos r t = 0
      · rw [if_pos h0, h0]; rfl
      · rw [if_neg h0]
        obtain ⟨k, hk⟩ : ∃ k, pos r t = k + 1 := ⟨pos r t - 1, by omega⟩
        rw [hk]; rfl
    · rw [if_neg h, if_neg (show ¬ (b, g).1 ≤ t from h), if_pos rfl]
theorem pos_canon {p : Prof} (hp : Canon p) {t : Int} (h0 : 0 ≤ t) : 0 < pos p t := by
  obtain ⟨f, r, rfl, h⟩ := canon_form hp
  unfold pos
  rw [if_pos h0]
  omega
theorem atP_pos {p : Prof} {t : Int} (h : 0 < pos p t) : atP p t = (p.getD (pos p t - 1) (0, 0)).2 := by
  unfold atP
  rw [at_pos, if_neg (by omega)]
theorem pos_is {p : Prof} {a : Int} (h : Up a p) {k : Nat} {t : Int} (hk : k < p.length) (h1 : (p.getD k (0, 0)).1 ≤ t) (h2 : k + 1 < p.length → t < (p.getD (k + 1) (0, 0)).1) : pos p t = k + 1 := by
  have hle := pos_le p t
  rcases Nat.lt_trichotomy (pos p t) (k + 1) with hlt | heq | hgt
  · have := pos_ge h t k (by omega) hk; omega
  · exact heq
  · have := pos_lt p t (k + 1) hgt
    have := h2 (by omega)
    omega
theorem pos_mono : ∀ {p : Prof} {a : Int}, Up a p → ∀ {t u : Int}, t ≤ u → pos p t ≤ pos p u := by
  intro p a h t u htu
  rcases Nat.lt_or_ge (pos p u) (pos p t) with hlt | hge
  · have h1 := pos_lt p t (pos p u) hlt
    have h2 := pos_ge h u (pos p u) (Nat.le_refl _) (by have := pos_le p t; omega)
    omega
  · exact hge
theorem getD_mem {p : Prof} {k : Nat} (h : k < p.length) : p.getD k (0, 0) ∈ p := by
  rw [List.getD, List.getElem?_eq_getElem h]
  exact List.getElem_mem h

/-! ### One step more, at a time -/
def cutL (p : Prof) (t : Int) : Prof := p.take (pos p t) ++ (t, (p.getD (pos p t - 1) (0, 0)).2) :: p.drop (pos p t)
def insT : Int → Prof → Int → Prof
  | f, [], t => [(t, f)]
  | f, (b, g) :: r, t => if b ≤ t then (b, g) :: insT g r t else (t, f) :: (b, g) :: r
theorem insT_eq : ∀ (p : Prof) (f t : Int), insT f p t = p.take (pos p t) ++ (t, atT f p t) :: p.drop (pos p t)
  | [], f, t => rfl
  | (b, g) :: r, f, t => by
    unfold insT pos atT
    by_cases h : b ≤ t
    · rw [if_pos h, if_pos h, if_pos h, insT_eq r g t]; rfl
    · rw [if_neg h, if_neg h, if_neg h]; rfl
theorem cutL_eq {p : Prof} {t : Int} (h : 0 < pos p t) : cutL p t = insT 0 p t := by
  rw [insT_eq]
  unfold cutL
  have := atP_pos h
  unfold atP at this
  rw [this]
theorem insT_at : ∀ (p : Prof) (f t u : Int), atT f (insT f p t) u = atT f p u
  | [], f, t, u => by
    unfold insT atT
    split
    · rfl
    · rfl
  | (b, g) :: r, f, t, u => by
    unfold insT
    by_cases h : b ≤ t
    · rw [if_pos h]
      unfold atT
      by_cases h1 : b ≤ u
      · rw [if_pos h1, if_pos h1, insT_at r g t u]
      · rw [if_neg h1, if_neg h1]
    · rw [if_neg h]
      show (if t ≤ u then atT f ((b, g) :: r) u else f) = _
      by_cases h1 : t ≤ u
      · rw [if_pos h1]
      · rw [if_neg h1]
        unfold atT
        rw [if_neg (by omega)]
theorem insT_up : ∀ {p : Prof} {a : Int} (f : Int) {t : Int}, Up a p → a ≤ t → Up a (insT f p t)
  | [], a, f, t, _, ha => ⟨ha, trivial⟩
  | (b, g) :: r, a, f, t, h, ha => by
    unfold insT
    by_cases hb : b ≤ t
    · rw [if_pos hb]; exact ⟨h.1, insT_up g h.2 hb⟩
    · rw [if_neg hb]; exact ⟨ha, by show t ≤ b; omega, h.2⟩
theorem insT_mem : ∀ (p : Prof) (f t : Int) (s : Int × Int), s ∈ insT f p t ↔ s ∈ p ∨ s = (t, atT f p t)
  | [], f, t, s => by unfold insT atT; simp
  | (b, g) :: r, f, t, s => by
    unfold insT atT
    by_cases h : b ≤ t
    · rw [if_pos h, if_pos h, List.mem_cons, List.mem_cons, insT_mem r g t s]
      constructor
      · rintro (h | h | h)
        · exact .inl (.inl h)
        · exact .inl (.inr h)
        · exact .inr h
      · rintro ((h | h) | h)
        · exact .inl h
        · exact .inr (.inl h)
        · exact .inr (.inr h)
    · rw [if_neg h, if_neg h, List.mem_cons]
      constructor
      · rintro (h | h)
        · exact .inr h
        · exact .inl h
      · rintro (h | h)
        · exact .inr h
        · exact .inl h
theorem cutL_len (p : Prof) (t : Int) : (cutL p t).length = p.length + 1 := by
  unfold cutL
  have := pos_le p t
  simp [List.length_append, List.length_take, List.length_drop]
  omega

/-! ### So much more in a span, step by step -/
def addF (a b d : Int) (s : Int × Int) : Int := if a ≤ s.1 ∧ s.1 < b then s.2 + d else s.2
def addStep (a b d : Int) (out : Prof) (s : Int × Int) : Prof := if out = [] ∨ (out.getD (out.length - 1) (0, 0)).2 ≠ addF a b d s then out ++ [(s.1, addF a b d s)] else out
def addQ (p : Prof) (a b d : Int) : Prof := (cutL (cutL p a) b).foldl (addStep a b d) []
theorem addStep_fold (a b d : Int) (v : Int → Int) : ∀ (l out : Prof), (∀ s ∈ l, addF a b d s = v s.1) → l.foldl (addStep a b d) out = (l.map (·.1)).foldl (putStep v) out
  | [], _, _ => rfl
  | s :: l, out, h => by
    simp only [List.foldl_cons, List.map_cons]
    have e : addStep a b d out s = putStep v out s.1 := by
      unfold addStep putStep
      rw [h s List.mem_cons_self]
    rw [e]
    exact addStep_fold a b d v l _ fun u hu => h u (List.mem_cons_of_mem _ hu)
/-- without what is told twice -/
def once : Int → List Int → List Int
  | _, [] => []
  | a, b :: r => if b ≤ a then once a r else b :: once b r
def UpT : Int → List Int → Prop
  | _, [] => True
  | a, b :: r => a ≤ b ∧ UpT b r
theorem up_times : ∀ {p : Prof} {a : Int}, Up a p → UpT a (p.map (·.1))
  | [], _, _ => trivial
  | _ :: _, _, h => ⟨h.1, up_times h.2⟩
theorem once_rise : ∀ {l : List Int} {a : Int}, UpT a l → (∀ x ∈ l, x ≤ NEVER) → Rise a (once a l)
  | [], _, _, _ => trivial
  | b :: r, a, h, hn => by
    unfold once
    split
    · have hb : b = a := by have := h.1; omega
      subst hb
      exact once_rise h.2 fun x hx => hn x (List.mem_cons_of_mem _ hx)
    · exact ⟨by omega, hn b List.mem_cons_self, once_rise h.2 fun x hx => hn x (List.mem_cons_of_mem _ hx)⟩
theorem upT_ge : ∀ {l : List Int} {a : Int}, UpT a l → ∀ x ∈ l, a ≤ x
  | b :: r, a, h, x, hx => by
    rcases List.mem_cons.1 hx with rfl | hx
    · exact h.1
    · have := upT_ge h.2 x hx; have := h.1; omega
theorem once_mem : ∀ {l : List Int} {a : Int}, UpT a l → ∀ x ∈ l, x ≤ a ∨ x ∈ once a l
  | b :: r, a, h, x, hx => by
    unfold once
    rcases List.mem_cons.1 hx with rfl | hx
    · split
      · exact .inl (by assumption)
      · exact .inr List.mem_cons_self
    · split
      · rename_i hle
        have hb : b = a := by have := h.1; omega
        subst hb
        exact once_mem h.2 x hx
      · rcases once_mem h.2 x hx with h1 | h1
        · have h2 := upT_ge h.2 x hx
          obtain rfl : x = b := by omega
          exact .inr List.mem_cons_self
        · exact .inr (List.mem_cons_of_mem _ h1)
theorem squeeze_once (v : Int → Int) : ∀ {l : List Int} {a : Int}, UpT a l → squeeze v (v a) l = squeeze v (v a) (once a l)
  | [], _, _ => rfl
  | b :: r, a, h => by
    unfold once
    split
    · have hb : b = a := by have := h.1; omega
      subst hb
      show (if v b = v b then squeeze v (v b) r else _) = _
      rw [if_pos rfl]
      exact squeeze_once v h.2
    · show (if v b = v a then squeeze v (v a) r else (b, v b) :: squeeze v (v b) r) = (if v b = v a then squeeze v (v a) (once b r) else (b, v b) :: squeeze v (v b) (once b r))
      by_cases he : v b = v a
      · rw [if_pos he, if_pos he, ← he]; exact squeeze_once v h.2
      · rw [if_neg he, if_neg he, squeeze_once v h.2]
/-- WHAT THE PROGRAM'S LOOP MAKES IS THE CHANGED PROFILE. -/
theorem addQ_is {p : Prof} (hp : Canon p) {a b d : Int} (h0 : 0 ≤ a) (hab : a < b) (hb : b ≤ NEVER) : addQ p a b d = changeL p a b d := by
  obtain ⟨f, r, rfl, ht⟩ := canon_form hp
  have e1 : cutL ((0, f) :: r) a = (0, f) :: insT f r a := by
    rw [cutL_eq (pos_canon hp h0)]
    show (if (0 : Int) ≤ a then (0, f) :: insT f r a else _) = _
    rw [if_pos h0]
  have hpos2 : 0 < pos ((0, f) :: insT f r a) b := by unfold pos; rw [if_pos (show (0 : Int) ≤ b by omega)]; omega
  have e2 : cutL (cutL ((0, f) :: r) a) b = (0, f) :: insT f (insT f r a) b := by
    rw [e1, cutL_eq hpos2]
    show (if (0 : Int) ≤ b then (0, f) :: insT f (insT f r a) b else _) = _
    rw [if_pos (by omega)]
  have hu0 : Up 0 r := tail_up ht
  have hu1 : Up 0 (insT f r a) := insT_up f hu0 h0
  have hu2 : Up 0 (insT f (insT f r a) b) := insT_up f hu1 (by omega)
  have hat : ∀ u, 0 ≤ u → atP ((0, f) :: r) u = atT f r u := fun u hu => by
    show (if (0 : Int) ≤ u then atT f r u else 0) = _
    rw [if_pos hu]
  have htell : ∀ s ∈ (0, f) :: insT f (insT f r a) b, s.2 = atP ((0, f) :: r) s.1 ∧ s.1 ≤ NEVER ∧ 0 ≤ s.1 := by
    have hbase : ∀ s ∈ (0, f) :: r, s.2 = atP ((0, f) :: r) s.1 ∧ s.1 ≤ NEVER ∧ 0 ≤ s.1 := fun s hs => ⟨(atP_step hp s hs).symm, (canon_times hp s hs).2, (canon_times hp s hs).1⟩
    intro s hs
    rcases List.mem_cons.1 hs with rfl | hs
    · exact hbase _ List.mem_cons_self
    · rcases (insT_mem _ _ _ _).1 hs with hs | rfl
      · rcases (insT_mem _ _ _ _).1 hs with hs | rfl
        · exact hbase s (List.mem_cons_of_mem _ hs)
        · exact ⟨(hat a h0).symm, by show a ≤ NEVER; omega, h0⟩
      · refine ⟨?_, hb, by show 0 ≤ b; omega⟩
        show atT f (insT f r a) b = _
        rw [insT_at, hat b (by omega)]
  have hmem : ∀ x, x ∈ (insT f (insT f r a) b).map (·.1) ↔ x = b ∨ x = a ∨ x ∈ r.map (·.1) := by
    intro x
    rw [List.mem_map]
    constructor
    · rintro ⟨s, hs, rfl⟩
      rcases (insT_mem _ _ _ _).1 hs with hs | rfl
      · rcases (insT_mem _ _ _ _).1 hs with hs | rfl
        · exact .inr (.inr (List.mem_map.2 ⟨s, hs, rfl⟩))
        · exact .inr (.inl rfl)
      · exact .inl rfl
    · rintro (rfl | rfl | hx)
      · exact ⟨_, (insT_mem _ _ _ _).2 (.inr rfl), rfl⟩
      · exact ⟨_, (insT_mem _ _ _ _).2 (.inl ((insT_mem _ _ _ _).2 (.inr rfl))), rfl⟩
      · obtain ⟨s, hs, rfl⟩ := List.mem_map.1 hx
        exact ⟨s, (insT_mem _ _ _ _).2 (.inl ((insT_mem _ _ _ _).2 (.inl hs))), rfl⟩
  have hfold : addQ ((0, f) :: r) a b d = profOf (changeV ((0, f) :: r) a b d) (once 0 ((insT f (insT f r a) b).map (·.1))) := by
    unfold addQ
    rw [e2, addStep_fold a b d (changeV ((0, f) :: r) a b d) _ _ fun s hs => ?_]
    · simp only [List.map_cons]
      rw [put_prof]
      unfold profOf
      rw [squeeze_once _ (up_times hu2)]
    · have := (htell s hs).1
      unfold addF changeV
      rw [← this]
      split <;> omega
  have hrise : Rise 0 (once 0 ((insT f (insT f r a) b).map (·.1))) := once_rise (up_times hu2) fun x hx => by
    obtain ⟨s, hs, rfl⟩ := List.mem_map.1 hx
    exact (htell s (List.mem_cons_of_mem _ hs)).2.1
  have hin : ∀ x, (x = b ∨ x = a ∨ x ∈ r.map (·.1)) → x ≤ 0 ∨ x ∈ once 0 ((insT f (insT f r a) b).map (·.1)) := fun x hx => once_mem (up_times hu2) x ((hmem x).2 hx)
  have hc := change_const hp (a := a) (b := b) (d := d) (ts := once 0 ((insT f (insT f r a) b).map (·.1))) (fun s hs => by
      rcases List.mem_cons.1 hs with rfl | hs
      · exact .inl rfl
      · rcases hin s.1 (.inr (.inr (List.mem_map.2 ⟨s, hs, rfl⟩))) with h | h
        · have := (ht.times s hs).1; exact .inl (by omega)
        · exact .inr h)
    (by rcases hin a (.inr (.inl rfl)) with h | h
        · exact .inl (by omega)
        · exact .inr h)
    (by rcases hin b (.inl rfl) with h | h
        · omega
        · exact h)
  rw [hfold]
  exact change_unique hp (profOf_canon _ hrise) h0 hab hb (profOf_at hrise hc)

/-! ### The least and the most of the steps of a span -/
def minS (m : Int) (s : Int × Int) : Int := min m s.2
def maxS (m : Int) (s : Int × Int) : Int := max m s.2
def minL (l : Prof) : Int := l.foldl minS 1048576
def maxL (l : Prof) : Int := l.foldl maxS 0
theorem min_fold : ∀ (l : Prof) (m : Int), l.foldl minS m ≤ m ∧ (∀ s ∈ l, l.foldl minS m ≤ s.2) ∧ (l.foldl minS m = m ∨ ∃ s ∈ l, l.foldl minS m = s.2)
  | [], m => ⟨Int.le_refl _, (fun s hs => by cases hs), .inl rfl⟩
  | x :: l, m => by
    simp only [List.foldl_cons]
    obtain ⟨h1, h2, h3⟩ := min_fold l (minS m x)
    have e : minS m x = m ∨ minS m x = x.2 := by unfold minS; omega
    have e1 : minS m x ≤ m ∧ minS m x ≤ x.2 := by unfold minS; omega
    refine ⟨by omega, fun s hs => ?_, ?_⟩
    · rcases List.mem_cons.1 hs with rfl | hs
      · omega
      · exact h2 s hs
    · rcases h3 with h3 | ⟨s, hs, h3⟩
      · rcases e with e | e
        · exact .inl (by omega)
        · exact .inr ⟨x, List.mem_cons_self, by omega⟩
      · exact .inr ⟨s, List.mem_cons_of_mem _ hs, h3⟩
theorem max_fold : ∀ (l : Prof) (m : Int), m ≤ l.foldl maxS m ∧ (∀ s ∈ l, s.2 ≤ l.foldl maxS m) ∧ (l.foldl maxS m = m ∨ ∃ s ∈ l, l.foldl maxS m = s.2)
  | [], m => ⟨Int.le_refl _, (fun s hs => by cases hs), .inl rfl⟩
  | x :: l, m => by
    simp only [List.foldl_cons]
    obtain ⟨h1, h2, h3⟩ := max_fold l (maxS m x)
    have e : maxS m x = m ∨ maxS m x = x.2 := by unfold maxS; omega
    have e1 : m ≤ maxS m x ∧ x.2 ≤ maxS m x := by unfold maxS; omega
    refine ⟨by omega, fun s hs => ?_, ?_⟩
    · rcases List.mem_cons.1 hs with rfl | hs
      · omega
      · exact h2 s hs
    · rcases h3 with h3 | ⟨s, hs, h3⟩
      · rcases e with e | e
        · exact .inl (by omega)
        · exact .inr ⟨x, List.mem_cons_self, by omega⟩
      · exact .inr ⟨s, List.mem_cons_of_mem _ hs, h3⟩
/-- the steps that tell of a span's times -/
def durL (p : Prof) (a b : Int) : Prof := (p.drop (pos p a - 1)).take (pos p (b - 1) - (pos p a - 1))
theorem dur_len {p : Prof} (hp : Canon p) {a b : Int} (h0 : 0 ≤ a) (hab : a < b) : pos p a - 1 < pos p (b - 1) ∧ pos p (b - 1) ≤ p.length ∧ (durL p a b).length = pos p (b - 1) - (pos p a - 1) := by
  have h1 := pos_canon hp h0
  have h2 := pos_mono (canon_up hp) (show a ≤ b - 1 by omega)
  have h3 := pos_le p (b - 1)
  refine ⟨by omega, h3, ?_⟩
  unfold durL
  rw [List.length_take, List.length_drop]
  omega
theorem dur_get {p : Prof} {a b : Int} {j : Nat} (h : j < pos p (b - 1) - (pos p a - 1)) : (durL p a b).getD j (0, 0) = p.getD (pos p a - 1 + j) (0, 0) := by
  unfold durL
  rw [List.getD, List.getD, List.getElem?_take_of_lt h, List.getElem?_drop]
theorem dur_mem {p : Prof} (hp : Canon p) {a b : Int} (h0 : 0 ≤ a) (hab : a < b) : (∀ t, a ≤ t → t < b → ∃ s ∈ durL p a b, atP p t = s.2) ∧ ∀ s ∈ durL p a b, s ∈ p ∧ ∃ t, a ≤ t ∧ t < b ∧ atP p t = s.2 := by
  obtain ⟨h1, h2, h3⟩ := dur_len hp h0 hab
  have hup := canon_up hp
  refine ⟨fun t ht htb => ?_, fun s hs => ?_⟩
  · have g1 := pos_mono hup ht
    have g2 := pos_mono hup (show t ≤ b - 1 by omega)
    have g3 := pos_canon hp h0
    refine ⟨(durL p a b).getD (pos p t - 1 - (pos p a - 1)) (0, 0), getD_mem (by omega), ?_⟩
    rw [dur_get (by omega), atP_pos (by omega), show pos p a - 1 + (pos p t - 1 - (pos p a - 1)) = pos p t - 1 by omega]
  · obtain ⟨j, hj, rfl⟩ := List.getElem_of_mem hs
    have e : (durL p a b)[j] = p.getD (pos p a - 1 + j) (0, 0) := by
      rw [← dur_get (b := b) (by omega), List.getD, List.getElem?_eq_getElem hj]
      rfl
    rw [e]
    have hm := getD_mem (p := p) (k := pos p a - 1 + j) (by omega)
    refine ⟨hm, ?_⟩
    match j with
    | 0 => exact ⟨a, Int.le_refl _, hab, atP_pos (pos_canon hp h0)⟩
    | j + 1 =>
      have g1 := pos_ge hup a (pos p a - 1 + (j + 1)) (by omega) (by omega)
      have g2 := pos_lt p (b - 1) (pos p a - 1 + (j + 1)) (by omega)
      exact ⟨_, by omega, by omega, atP_step hp _ hm⟩
theorem minL_is {p : Prof} (hp : Canon p) (hb : Bounded p) {a b : Int} (h0 : 0 ≤ a) (hab : a < b) : minL (durL p a b) = leastL p a b := by
  refine IsLeast.unique ?_ (least_is hp h0 hab)
  obtain ⟨h1, h2⟩ := dur_mem hp h0 hab
  obtain ⟨m1, m2, m3⟩ := min_fold (durL p a b) 1048576
  refine ⟨fun t ht htb => ?_, ?_⟩
  · obtain ⟨s, hs, e⟩ := h1 t ht htb
    rw [e]; exact m2 s hs
  · rcases m3 with m3 | ⟨s, hs, m3⟩
    · obtain ⟨s, hs, e⟩ := h1 a (Int.le_refl _) hab
      have g1 := m2 s hs
      have g2 := (hb s (h2 s hs).1).2
      unfold MAXF at g2
      exact ⟨a, Int.le_refl _, hab, by unfold minL; omega⟩
    · obtain ⟨t, t1, t2, e⟩ := (h2 s hs).2
      exact ⟨t, t1, t2, by unfold minL; omega⟩
theorem maxL_is {p : Prof} (hp : Canon p) (hb : Bounded p) {a b : Int} (h0 : 0 ≤ a) (hab : a < b) : maxL (durL p a b) = mostL p a b := by
  refine IsMost.unique ?_ (most_is hp h0 hab)
  obtain ⟨h1, h2⟩ := dur_mem hp h0 hab
  obtain ⟨m1, m2, m3⟩ := max_fold (durL p a b) 0
  refine ⟨fun t ht htb => ?_, ?_⟩
  · obtain ⟨s, hs, e⟩ := h1 t ht htb
    rw [e]; exact m2 s hs
  · rcases m3 with m3 | ⟨s, hs, m3⟩
    · obtain ⟨s, hs, e⟩ := h1 a (Int.le_refl _) hab
      have g1 := m2 s hs
      have g2 := (hb s (h2 s hs).1).1
      exact ⟨a, Int.le_refl _, hab, by unfold maxL; omega⟩
    · obtain ⟨t, t1, t2, e⟩ := (h2 s hs).2
      exact ⟨t, t1, t2, by unfold maxL; omega⟩

/-! ### The first time, from step to step -/
def endP (p : Prof) (k : Nat) : Int := if k + 1 < p.length then (p.getD (k + 1) (0, 0)).1 else NEVER
theorem endP_le {p : Prof} (hp : Canon p) (k : Nat) : endP p k ≤ NEVER := by
  unfold endP
  split
  · exact (canon_times hp _ (getD_mem (by assumption))).2
  · exact Int.le_refl _
theorem at_of_step {p : Prof} (hp : Canon p) {k : Nat} {u : Int} (hk : k < p.length) (h1 : (p.getD k (0, 0)).1 ≤ u) (h2 : u < endP p k) : atP p u = (p.getD k (0, 0)).2 := by
  have := pos_is (canon_up hp) hk h1 (fun h => by unfold endP at h2; rwa [if_pos h] at h2)
  rw [atP_pos (by omega), this]
  rfl
theorem step_rise : ∀ {p : Prof} {a f : Int}, Tail a f p → ∀ k, k + 1 < p.length → (p.getD k (0, 0)).1 < (p.getD (k + 1) (0, 0)).1
  | [], _, _, _, k, h => absurd h (by simp)
  | s :: r, a, f, h, k, hk => by
    match r, k, h, hk with
    | y :: r, 0, h, _ => exact h.2.2.2.1
    | y :: r, k + 1, h, hk => exact step_rise h.2.2.2 k (by simpa using hk)
theorem canon_rise {p : Prof} (hp : Canon p) {k : Nat} (hk : k + 1 < p.length) : (p.getD k (0, 0)).1 < (p.getD (k + 1) (0, 0)).1 := by
  obtain ⟨f, r, rfl, h⟩ := canon_form hp
  match k with
  | 0 =>
    match r, h, hk with
    | y :: r, h, _ => exact h.1
  | k + 1 => exact step_rise h k (by simpa using hk)
/-- what is known at the head of a round -/
def AtRound (p : Prof) (a l n : Int) (k : Nat) (s : Int) : Prop :=
  a ≤ s ∧ s ≤ NEVER ∧ (∀ e, a ≤ e → e < s → ¬ Holds p l n e) ∧ (s < NEVER → k < p.length ∧ s < endP p k ∧ (p.getD k (0, 0)).1 < plus s l ∧ ∀ u, s ≤ u → u < (p.getD k (0, 0)).1 → n ≤ atP p u)
theorem round_start {p : Prof} (hp : Canon p) {a l n : Int} (h0 : 0 ≤ a) (h1 : a < NEVER) (h2 : 1 ≤ l) : AtRound p a l n (pos p a - 1) a := by
  have hpos := pos_canon hp h0
  have hle := pos_le p a
  have hlt := pos_lt p a (pos p a - 1) (by omega)
  refine ⟨Int.le_refl _, by omega, fun e h h' => by omega, fun _ => ⟨by omega, ?_, ?_, fun u hu hu' => by omega⟩⟩
  · unfold endP
    split
    · rw [show pos p a - 1 + 1 = pos p a by omega] at *
      exact pos_ge (canon_up hp) a _ (Nat.le_refl _) (by assumption)
    · exact h1
  · have := (plus_lt h1 h2).1; omega
theorem plus_mono {s e l : Int} (h : s ≤ e) : plus s l ≤ plus e l := by
  unfold plus
  split <;> split <;> omega
/-- so much isn't free in this step: on from its end -/
theorem round_less {p : Prof} (hp : Canon p) {a l n : Int} {k : Nat} {s : Int} (h2 : 1 ≤ l) (hI : AtRound p a l n k s) (hs : s < NEVER) (hf : (p.getD k (0, 0)).2 < n) : AtRound p a l n (k + 1) (endP p k) := by
  obtain ⟨i1, i2, i3, i4⟩ := hI
  obtain ⟨j1, j2, j3, j4⟩ := i4 hs
  have hle := endP_le hp k
  have hkt := atP_step hp _ (getD_mem j1)
  refine ⟨by omega, hle, fun e he1 he2 hh => ?_, fun hlt => ?_⟩
  · by_cases hes : e < s
    · exact i3 e he1 hes hh
    · by_cases hek : e < (p.getD k (0, 0)).1
      · have := hh (p.getD k (0, 0)).1 (by omega) (by have := plus_mono (l := l) (show s ≤ e by omega); omega)
        omega
      · have := hh e (Int.le_refl _) (plus_lt (by omega) h2).1
        rw [at_of_step hp j1 (by omega) he2] at this
        omega
  · have hk1 : k + 1 < p.length := by
      rcases Nat.lt_or_ge (k + 1) p.length with h | h
      · exact h
      · unfold endP at hlt; rw [if_neg (by omega)] at hlt; omega
    have e1 : endP p k = (p.getD (k + 1) (0, 0)).1 := by unfold endP; rw [if_pos hk1]
    refine ⟨hk1, ?_, ?_, fun u hu hu' => by omega⟩
    · rw [e1]
      show _ < (if k + 1 + 1 < p.length then (p.getD (k + 1 + 1) (0, 0)).1 else NEVER)
      split
      · exact canon_rise hp (by assumption)
      · omega
    · rw [← e1]; exact (plus_lt hlt h2).1
/-- so much is free in this step, but not for so long yet -/
theorem round_on {p : Prof} (hp : Canon p) {a l n : Int} {k : Nat} {s : Int} (hI : AtRound p a l n k s) (hs : s < NEVER) (h2 : 1 ≤ l) (hf : n ≤ (p.getD k (0, 0)).2) (he : endP p k < plus s l) : AtRound p a l n (k + 1) s := by
  obtain ⟨i1, i2, i3, i4⟩ := hI
  obtain ⟨j1, j2, j3, j4⟩ := i4 hs
  have hpl := (plus_lt hs h2).2
  have hk1 : k + 1 < p.length := by
    rcases Nat.lt_or_ge (k + 1) p.length with h | h
    · exact h
    · unfold endP at he; rw [if_neg (by omega)] at he; omega
  have e1 : endP p k = (p.getD (k + 1) (0, 0)).1 := by unfold endP; rw [if_pos hk1]
  refine ⟨i1, i2, i3, fun _ => ⟨hk1, ?_, by omega, fun u hu hu' => ?_⟩⟩
  · show s < (if k + 1 + 1 < p.length then (p.getD (k + 1 + 1) (0, 0)).1 else NEVER)
    split
    · have := canon_rise hp (k := k + 1) (by assumption); omega
    · exact hs
  · by_cases huk : u < (p.getD k (0, 0)).1
    · exact j4 u hu huk
    · rw [at_of_step hp j1 (by omega) (by omega)]; exact hf
theorem round_found {p : Prof} (hp : Canon p) {a l n : Int} {k : Nat} {s : Int} (hr : rightP p = true) (h0 : 0 ≤ a) (h1 : a < NEVER) (h2 : 1 ≤ l) (h3 : 0 ≤ n) (h4 : n ≤ 1048576) (hI : AtRound p a l n k s) (hs : s < NEVER) (hf : n ≤ (p.getD k (0, 0)).2) (he : plus s l ≤ endP p k) : firstR p a l n = (s, true) := by
  obtain ⟨i1, i2, i3, i4⟩ := hI
  obtain ⟨j1, j2, j3, j4⟩ := i4 hs
  have hh : Holds p l n s := fun u hu hu' => by
    by_cases huk : u < (p.getD k (0, 0)).1
    · exact j4 u hu huk
    · rw [at_of_step hp j1 (by omega) (by omega)]; exact hf
  have hfirst : IsFirst p a l n s := ⟨i1, hs, hh, i3⟩
  rcases firstR_is hr h0 (by unfold NEVER at h1; omega) h2 h3 h4 with ⟨t, e, ht⟩ | ⟨e, hno⟩
  · rw [e, ht.unique hfirst]
  · exact absurd hh (hno s i1 hs)
theorem round_none {p : Prof} {a l n : Int} {k : Nat} {s : Int} (hr : rightP p = true) (h0 : 0 ≤ a) (h1 : a < NEVER) (h2 : 1 ≤ l) (h3 : 0 ≤ n) (h4 : n ≤ 1048576) (hI : AtRound p a l n k s) (hs : ¬ s < NEVER) : firstR p a l n = (0, false) := by
  obtain ⟨i1, i2, i3, _⟩ := hI
  rcases firstR_is hr h0 (by unfold NEVER at h1; omega) h2 h3 h4 with ⟨t, e, ht⟩ | ⟨e, hno⟩
  · exact absurd ht.2.2.1 (i3 t ht.1 (by have := ht.2.1; omega))
  · exact e

end Go.Proofs.Ytkhnlbkghjjdnaa
