/- What a queue is, who is ready, who is lost, in plain words. No program's text is walked here. What layer 11's calls answer, in words for memory; how a whole job is stored. Written by gen/gen_job.py, gen_joblaws.py. Words for memory: a slice of jobs that reads as a queue. Written by gen/gen_queue.py. How layer 12's arguments are opened: a list of jobs. Written by hand. -/
import Derived.Test.YtimgdlddfnglaaaMg04
import Derived.Test.YtimgdlddfnglaaaMg05
import Derived.Test.YtimgdlddfnglaaaMg02
namespace Go.Proofs.Ytimgdlddfnglaaa

abbrev Qu := List Jb
/-- the k-th job -/
def jAt (l : Qu) (k : Nat) : Jb := l.getD k jb0
/-- where a number stands; the list's length: nowhere -/
def atN (l : Qu) (id : Int) : Nat := l.findIdx (fun j => j.id == id)
def atZ (l : Qu) (id : Int) : Int := if atN l id < l.length then (atN l id : Int) else -1
/-- the job of a number -/
def jOf (l : Qu) (id : Int) : Jb := jAt l (atN l id)
def HasQ (l : Qu) (id : Int) : Prop := atN l id < l.length
instance (l : Qu) (id : Int) : Decidable (HasQ l id) := by unfold HasQ; infer_instance
def RiseAt (l : Qu) (i : Nat) : Prop := 0 < i → (jAt l (i - 1)).id < (jAt l i).id ∧ (jAt l (i - 1)).came ≤ (jAt l i).came
instance (l : Qu) (i : Nat) : Decidable (RiseAt l i) := by unfold RiseAt; infer_instance
def NeedsAt (l : Qu) (i : Nat) : Prop := ∀ k, k < (jAt l i).needs.length → HasQ l ((jAt l i).needs.getD k 0)
instance (l : Qu) (i : Nat) : Decidable (NeedsAt l i) := by unfold NeedsAt; infer_instance
def JobAt (l : Qu) (i : Nat) : Prop := RightJ (jAt l i) ∧ RiseAt l i ∧ NeedsAt l i
instance (l : Qu) (i : Nat) : Decidable (JobAt l i) := by unfold JobAt; infer_instance
def RightQ (l : Qu) : Prop := l.length ≤ 64 ∧ ∀ i, i < l.length → JobAt l i
instance (l : Qu) : Decidable (RightQ l) := by unfold RightQ; infer_instance
def rightQ (l : Qu) : Bool := decide (RightQ l)
/-- a queue that isn't too long for a look -/
def ShortQ (l : Qu) : Prop := l.length ≤ 14 ∧ ∀ i, i < l.length → (jAt l i).needs.length ≤ 20
instance (l : Qu) : Decidable (ShortQ l) := by unfold ShortQ; infer_instance
def shortQ (l : Qu) : Bool := decide (ShortQ l)
/-- a queue that can be looked at whole -/
def FewQ (l : Qu) : Prop := l.length ≤ 100 ∧ ∀ i, i < l.length → (jAt l i).needs.length ≤ 100
instance (l : Qu) : Decidable (FewQ l) := by unfold FewQ; infer_instance

section
variable {l : Qu} {id : Int} {i k : Nat} {j : Jb}
theorem ShortQ.few (h : ShortQ l) : FewQ l := ⟨by have := h.1; omega, fun i hi => by have := h.2 i hi; omega⟩
theorem RightQ.few (h : RightQ l) : FewQ l := ⟨by have := h.1; omega, fun i hi => by have := (h.2 i hi).1.1.2.2.1; omega⟩
theorem jAt_lt (h : i < l.length) : jAt l i = l[i] := by unfold jAt; rw [List.getD, List.getElem?_eq_getElem h]; rfl
theorem jAt_mem (h : i < l.length) : jAt l i ∈ l := by rw [jAt_lt h]; exact List.getElem_mem h
theorem mem_jAt (h : j ∈ l) : ∃ i, i < l.length ∧ jAt l i = j := by
  obtain ⟨i, hi, e⟩ := List.getElem_of_mem h
  exact ⟨i, hi, by rw [jAt_lt hi]; exact e⟩
theorem jAt_out (h : ¬ i < l.length) : jAt l i = jb0 := by unfold jAt; rw [List.getD, List.getElem?_eq_none (by omega)]; rfl
theorem atN_le : atN l id ≤ l.length := List.findIdx_le_length
theorem atN_id (h : HasQ l id) : (jOf l id).id = id := by
  unfold jOf
  rw [jAt_lt h]
  have h2 := List.findIdx_getElem (p := fun j : Jb => j.id == id) (xs := l) (w := h)
  exact beq_iff_eq.1 h2
theorem atN_before (h : k < atN l id) : (jAt l k).id ≠ id := by
  have hk : k < l.length := Nat.lt_of_lt_of_le h atN_le
  rw [jAt_lt hk]
  have := List.not_of_lt_findIdx (p := fun j : Jb => j.id == id) h
  simpa using this
/-- the first place of a number -/
theorem atN_eq (h : i < l.length) (e : (jAt l i).id = id) (hb : ∀ k, k < i → (jAt l k).id ≠ id) : atN l id = i := by
  rcases Nat.lt_trichotomy (atN l id) i with h1 | h1 | h1
  · exact absurd (atN_id (l := l) (id := id) (Nat.lt_trans h1 h)) (hb _ h1)
  · exact h1
  · exact absurd e (atN_before h1)
theorem atN_none (h : ∀ k, k < l.length → (jAt l k).id ≠ id) : ¬ HasQ l id := fun hh => h _ hh (atN_id hh)
theorem atZ_yes (h : i < l.length) (e : (jAt l i).id = id) (hb : ∀ k, k < i → (jAt l k).id ≠ id) : atZ l id = i := by
  unfold atZ; rw [atN_eq h e hb, if_pos h]
theorem atZ_no (h : ∀ k, k < l.length → (jAt l k).id ≠ id) : atZ l id = -1 := by
  unfold atZ; exact if_neg (atN_none h)
theorem atZ_has (h : HasQ l id) : atZ l id = (atN l id : Int) := if_pos h
theorem atZ_hasNo (h : ¬ HasQ l id) : atZ l id = -1 := if_neg h
theorem has_at (h : i < l.length) : HasQ l (jAt l i).id := by
  unfold HasQ
  rcases Nat.lt_or_ge (atN l (jAt l i).id) l.length with h1 | h1
  · exact h1
  · exact absurd rfl (atN_before (l := l) (id := (jAt l i).id) (k := i) (by omega))
/-- in a queue the numbers rise -/
theorem RightQ.rise (h : RightQ l) : ∀ {i k : Nat}, i < k → k < l.length → (jAt l i).id < (jAt l k).id := by
  intro i k hik
  induction k with
  | zero => omega
  | succ k ih =>
    intro hk
    have h1 := ((h.2 (k + 1) hk).2.1 (by omega)).1
    rw [Nat.add_sub_cancel] at h1
    rcases Nat.lt_or_ge i k with h2 | h2
    · have := ih h2 (by omega); omega
    · have : i = k := by omega
      subst this; exact h1
theorem RightQ.came (h : RightQ l) : ∀ {i k : Nat}, i ≤ k → k < l.length → (jAt l i).came ≤ (jAt l k).came := by
  intro i k hik
  induction k with
  | zero => intro _; have : i = 0 := by omega
            subst this; exact Int.le_refl _
  | succ k ih =>
    intro hk
    have h1 := ((h.2 (k + 1) hk).2.1 (by omega)).2
    rw [Nat.add_sub_cancel] at h1
    rcases Nat.lt_or_ge i (k + 1) with h2 | h2
    · have := ih (by omega) (by omega); omega
    · have : i = k + 1 := by omega
      subst this; exact Int.le_refl _
theorem RightQ.at_id (h : RightQ l) (hi : i < l.length) : atN l (jAt l i).id = i :=
  atN_eq hi rfl fun _ hk e => by have := h.rise hk hi; omega
theorem RightQ.of_id (h : RightQ l) (hi : i < l.length) : jOf l (jAt l i).id = jAt l i := by unfold jOf; rw [h.at_id hi]
theorem RightQ.one (h : RightQ l) (hi : i < l.length) (hk : k < l.length) (e : (jAt l i).id = (jAt l k).id) : i = k := by
  have h1 := h.at_id hi
  have h2 := h.at_id hk
  rw [e] at h1; omega
theorem RightQ.job (h : RightQ l) (hi : i < l.length) : RightJ (jAt l i) := (h.2 i hi).1
theorem RightQ.needs (h : RightQ l) (hi : i < l.length) : NeedsAt l i := (h.2 i hi).2.2
/-- what is needed stands ahead -/
theorem RightQ.ahead (h : RightQ l) (hi : i < l.length) (hk : k < (jAt l i).needs.length) : atN l ((jAt l i).needs.getD k 0) < i := by
  have h1 := h.needs hi k hk
  have h2 := ((h.job hi).2.1 k hk).2.1
  have h3 := atN_id h1
  unfold jOf at h3
  rcases Nat.lt_or_ge (atN l ((jAt l i).needs.getD k 0)) i with h4 | h4
  · exact h4
  · rcases Nat.lt_or_ge i (atN l ((jAt l i).needs.getD k 0)) with h5 | h5
    · have := h.rise h5 h1; omega
    · have h6 : atN l ((jAt l i).needs.getD k 0) = i := by omega
      rw [h6] at h3; omega
theorem mem_getQ {xs : List Int} (h : k < xs.length) : xs.getD k 0 ∈ xs := by rw [List.getD, List.getElem?_eq_getElem h]; exact List.getElem_mem h
theorem getQ_mem {xs : List Int} {x : Int} (h : x ∈ xs) : ∃ k, k < xs.length ∧ xs.getD k 0 = x := by
  obtain ⟨i, hi, e⟩ := List.getElem_of_mem h
  exact ⟨i, hi, by rw [List.getD, List.getElem?_eq_getElem hi]; exact e⟩
end

/-! ## ready, lost -/
def readyB (l : Qu) (j : Jb) : Bool := decide (j.state = 0 ∧ ∀ k, k < j.needs.length → (jOf l (j.needs.getD k 0)).state = 3)
/-- it waits or is held, and one that it needs has ended otherwise, or is lost -/
inductive Lost (l : Qu) : Jb → Prop where
  | ended (j : Jb) (k : Nat) (h : j.state ≤ 1) (hk : k < j.needs.length) (hs : 3 < (jOf l (j.needs.getD k 0)).state) : Lost l j
  | lost (j : Jb) (k : Nat) (h : j.state ≤ 1) (hk : k < j.needs.length) (hs : Lost l (jOf l (j.needs.getD k 0))) : Lost l j
noncomputable def lostB (l : Qu) (j : Jb) : Bool := @decide (Lost l j) (Classical.propDecidable _)
section
variable {l : Qu} {j : Jb}
theorem lostB_iff : lostB l j = true ↔ Lost l j := @decide_eq_true_iff _ (Classical.propDecidable _)
theorem lostB_no : lostB l j = false ↔ ¬ Lost l j := by rw [← lostB_iff, Bool.not_eq_true]
theorem Lost.state (h : Lost l j) : j.state ≤ 1 := by cases h <;> assumption
theorem lost_iff : Lost l j ↔ j.state ≤ 1 ∧ ∃ k, k < j.needs.length ∧ (3 < (jOf l (j.needs.getD k 0)).state ∨ Lost l (jOf l (j.needs.getD k 0))) := by
  constructor
  · intro h
    cases h with
    | ended _ k h1 h2 h3 => exact ⟨h1, k, h2, .inl h3⟩
    | lost _ k h1 h2 h3 => exact ⟨h1, k, h2, .inr h3⟩
  · rintro ⟨h1, k, h2, h3 | h3⟩
    · exact .ended j k h1 h2 h3
    · exact .lost j k h1 h2 h3
theorem Lost.needs (h : Lost l j) : 0 < j.needs.length := by
  obtain ⟨_, k, hk, _⟩ := lost_iff.1 h
  omega
/-- who is ready is not lost -/
theorem ready_lost (h : readyB l j = true) : ¬ Lost l j := by
  have h1 := of_decide_eq_true h
  intro hl
  obtain ⟨_, k, hk, h2 | h2⟩ := lost_iff.1 hl
  · have := h1.2 k hk; omega
  · have := h1.2 k hk; have := h2.state; omega
end
noncomputable def lostQ (l : Qu) : List Int := if RightQ l then (l.filter (lostB l)).map Jb.id else []

/-! ## the order -/
/-- one stands ahead of the other: more urgent, or as urgent and earlier -/
def Before (a b : Jb) : Prop := b.spec.prio < a.spec.prio ∨ (b.spec.prio = a.spec.prio ∧ a.id < b.id)
instance (a b : Jb) : Decidable (Before a b) := by unfold Before; infer_instance
def putQ (j : Jb) : Qu → Qu
  | [] => [j]
  | x :: r => if Before j x then j :: x :: r else x :: putQ j r
def orderQ : Qu → Qu
  | [] => []
  | j :: r => putQ j (orderQ r)
def readyL (l : Qu) : Qu := orderQ (l.filter (readyB l))
def readyQ (l : Qu) : List Int := if RightQ l then (readyL l).map Jb.id else []
section
variable {l r : Qu} {a b c j : Jb}
theorem Before.trans (h : Before a b) (h2 : Before b c) : Before a c := by unfold Before at *; omega
theorem Before.irrefl : ¬ Before a a := by unfold Before; omega
theorem Before.asymm (h : Before a b) : ¬ Before b a := by unfold Before at *; omega
theorem Before.total (h : a.id ≠ b.id) : Before a b ∨ Before b a := by unfold Before; omega
theorem mem_putQ {x : Jb} : x ∈ putQ j l ↔ x = j ∨ x ∈ l := by
  induction l with
  | nil => simp [putQ]
  | cons y r ih =>
    unfold putQ
    split
    · simp
    · simp only [List.mem_cons, ih]
      constructor
      · rintro (h | h | h)
        · exact .inr (.inl h)
        · exact .inl h
        · exact .inr (.inr h)
      · rintro (h | h | h)
        · exact .inr (.inl h)
        · exact .inl h
        · exact .inr (.inr h)
theorem len_putQ : (putQ j l).length = l.length + 1 := by
  induction l with
  | nil => rfl
  | cons y r ih =>
    unfold putQ
    split
    · rfl
    · simp [ih]
theorem mem_orderQ {x : Jb} : x ∈ orderQ l ↔ x ∈ l := by
  induction l with
  | nil => rfl
  | cons y r ih => unfold orderQ; rw [mem_putQ, ih, List.mem_cons]
theorem len_orderQ : (orderQ l).length = l.length := by
  induction l with
  | nil => rfl
  | cons y r ih => unfold orderQ; rw [len_putQ, ih]; rfl
theorem pair_putQ (h : l.Pairwise Before) (hd : ∀ x ∈ l, x.id ≠ j.id) : (putQ j l).Pairwise Before := by
  induction l with
  | nil => simp [putQ]
  | cons y r ih =>
    have h1 := List.pairwise_cons.1 h
    unfold putQ
    split
    · rename_i hb
      refine List.pairwise_cons.2 ⟨fun z hz => ?_, h⟩
      rcases List.mem_cons.1 hz with rfl | hz
      · exact hb
      · exact hb.trans (h1.1 z hz)
    · rename_i hb
      refine List.pairwise_cons.2 ⟨fun z hz => ?_, ih h1.2 (fun x hx => hd x (List.mem_cons_of_mem _ hx))⟩
      rcases mem_putQ.1 hz with rfl | hz
      · rcases Before.total (hd y (List.mem_cons_self ..)) with h2 | h2
        · exact h2
        · exact absurd h2 hb
      · exact h1.1 z hz
theorem pair_orderQ (h : l.Pairwise fun a b => a.id ≠ b.id) : (orderQ l).Pairwise Before := by
  induction l with
  | nil => exact List.Pairwise.nil
  | cons y r ih =>
    have h1 := List.pairwise_cons.1 h
    unfold orderQ
    exact pair_putQ (ih h1.2) (fun x hx => fun e => h1.1 x (mem_orderQ.1 hx) e.symm)
/-- two lists in order with the same members are one -/
theorem order_one (h : l.Pairwise Before) (h2 : r.Pairwise Before) (hm : ∀ x, x ∈ l ↔ x ∈ r) : l = r := by
  induction l generalizing r with
  | nil =>
    cases r with
    | nil => rfl
    | cons y r => exact absurd ((hm y).2 (List.mem_cons_self ..)) (by simp)
  | cons x l ih =>
    cases r with
    | nil => exact absurd ((hm x).1 (List.mem_cons_self ..)) (by simp)
    | cons y r =>
      have h1 := List.pairwise_cons.1 h
      have h3 := List.pairwise_cons.1 h2
      have hxy : x = y := by
        rcases List.mem_cons.1 ((hm x).1 (List.mem_cons_self ..)) with e | e
        · exact e
        · rcases List.mem_cons.1 ((hm y).2 (List.mem_cons_self ..)) with e2 | e2
          · exact e2.symm
          · exact absurd (h3.1 x e) (h1.1 y e2).asymm
      subst hxy
      rw [ih h1.2 h3.2 fun z => ?_]
      have hz := hm z
      rw [List.mem_cons, List.mem_cons] at hz
      constructor
      · intro hl
        rcases hz.1 (.inr hl) with e | e
        · subst e; exact absurd (h1.1 z hl) Before.irrefl
        · exact e
      · intro hr
        rcases hz.2 (.inr hr) with e | e
        · subst e; exact absurd (h3.1 z hr) Before.irrefl
        · exact e
theorem RightQ.apart (h : RightQ l) : l.Pairwise fun a b => a.id ≠ b.id := by
  rw [List.pairwise_iff_getElem]
  intro i k hi hk hik
  have := h.rise hik hk
  rw [jAt_lt hi, jAt_lt hk] at this
  omega
theorem mem_readyL {x : Jb} : x ∈ readyL l ↔ x ∈ l ∧ readyB l x = true := by unfold readyL; rw [mem_orderQ, List.mem_filter]
theorem RightQ.readyOrder (h : RightQ l) : (readyL l).Pairwise Before := pair_orderQ (List.Pairwise.filter _ h.apart)
theorem readyL_len : (readyL l).length ≤ l.length := by unfold readyL; rw [len_orderQ]; exact List.length_filter_le _ _
theorem readyQ_len : (readyQ l).length ≤ l.length := by
  unfold readyQ
  split
  · rw [List.length_map]; exact readyL_len
  · exact Nat.zero_le _
theorem lostQ_len : (lostQ l).length ≤ l.length := by
  unfold lostQ
  split
  · rw [List.length_map]; exact List.length_filter_le _ _
  · exact Nat.zero_le _
end

/-! ## counts -/
def cntQ (l : Qu) (k : Int) : Nat := (l.filter (fun j => j.state == k)).length
def countsQ (l : Qu) (k : Int) : Int := if RightQ l then (cntQ l k : Int) else 0

/-! ## a job comes, something happens to one -/
def lastId (l : Qu) : Int := (jAt l (l.length - 1)).id
def lastCame (l : Qu) : Int := (jAt l (l.length - 1)).came
def RiseN (needs : List Int) : Prop := ∀ i, i < needs.length → 1 ≤ needs.getD i 0 ∧ (0 < i → needs.getD (i - 1) 0 < needs.getD i 0)
instance (needs : List Int) : Decidable (RiseN needs) := by unfold RiseN; infer_instance
def AddArg (l : Qu) (s : Sp) (needs : List Int) (now : Int) : Prop := RightQ l ∧ rightS s = true ∧ needs.length ≤ 16 ∧ RiseN needs ∧ TimeOk now ∧ (0 < l.length → lastCame l ≤ now)
instance (l : Qu) (s : Sp) (needs : List Int) (now : Int) : Decidable (AddArg l s needs now) := by unfold AddArg; infer_instance
def AllHas (l : Qu) (needs : List Int) : Prop := ∀ k, k < needs.length → HasQ l (needs.getD k 0)
instance (l : Qu) (needs : List Int) : Decidable (AllHas l needs) := by unfold AllHas; infer_instance
def nextId (l : Qu) : Int := if l.length = 0 then 1 else lastId l + 1
def addQE (l : Qu) (s : Sp) (needs : List Int) (now : Int) : Int :=
  if AddArg l s needs now then (if AllHas l needs then (if 64 ≤ l.length then 5 else if 1073741824 < nextId l then 9 else 0) else 6) else 1
def addJ (l : Qu) (s : Sp) (needs : List Int) (now : Int) : Jb := ⟨nextId l, s, needs, 0, now, 0, 0⟩
def addQL (l : Qu) (s : Sp) (needs : List Int) (now : Int) : Qu := if addQE l s needs now = 0 then l ++ [addJ l s needs now] else l
def addN (l : Qu) (s : Sp) (needs : List Int) (now : Int) : Int := if addQE l s needs now = 0 then nextId l else 0
/-- the queue behind what happens to the job of a number that is there -/
def doQ (l : Qu) (id what now : Int) : Qu := l.set (atN l id) (doJ (jOf l id) what now)
def doQE (l : Qu) (id what now : Int) : Int := doE (jOf l id) what now

end Go.Proofs.Ytimgdlddfnglaaa

namespace Go.Proofs.Ytimgdlddfnglaaa
open Go.RowKit

section
variable {wr w : World} {g B : Nat} {j j' : Jb} {A A' : Option Addr} {m c m' c' : Nat}
theorem BoxJ.other {g' k : Nat} {v : Value} (h : BoxJ wr g j A m c) (hne : g ≠ g') : BoxJ (wr.setCell ⟨g', k, none⟩ v) g j A m c :=
  ⟨by simpa [World.setCell] using h.lt, by rw [Below.heap_setCell _ _ _ _ hne]; exact h.at'⟩
/-- a whole job is stored -/
theorem BoxJ.store (h : BoxJ wr g j A m c) (j' : Jb) (A' : Option Addr) (m' c' : Nat) : BoxJ (((((((((((((wr.setCell ⟨g, 0, none⟩ (.int .i64 j'.id)).setCell ⟨g, 1, none⟩ (.int .i64 j'.spec.nodes)).setCell ⟨g, 2, none⟩ (.int .i64 j'.spec.cores)).setCell ⟨g, 3, none⟩ (.int .i64 j'.spec.gpus)).setCell ⟨g, 4, none⟩ (.string j'.spec.tag)).setCell ⟨g, 5, none⟩ (.bool j'.spec.whole)).setCell ⟨g, 6, none⟩ (.int .i64 j'.spec.long)).setCell ⟨g, 7, none⟩ (.int .i64 j'.spec.prio)).setCell ⟨g, 8, none⟩ (.slice A' m' c')).setCell ⟨g, 9, none⟩ (.int .i64 j'.state)).setCell ⟨g, 10, none⟩ (.int .i64 j'.came)).setCell ⟨g, 11, none⟩ (.int .i64 j'.frm)).setCell ⟨g, 12, none⟩ (.int .i64 j'.to)) g j' A' m' c' := by
  have key : ∀ {wr : World} {cs : Array Value} {k : Nat} {v : Value}, (g < wr.heap.size ∧ wr.heap[g]? = some (.cells cs 30)) → (g < (wr.setCell ⟨g, k, none⟩ v).heap.size ∧ (wr.setCell ⟨g, k, none⟩ v).heap[g]? = some (.cells (cs.setIfInBounds k v) 30)) := by
    intro wr cs k v h
    refine ⟨by simpa [World.setCell] using h.1, ?_⟩
    show (wr.heap.modify g _)[g]? = _
    rw [Array.getElem?_modify, if_pos rfl, h.2]; rfl
  have h0 : g < wr.heap.size ∧ wr.heap[g]? = some (.cells (jA j A m c) 30) := ⟨h.lt, h.at'⟩
  have h1 := (key (k := 12) (v := .int .i64 j'.to) (key (k := 11) (v := .int .i64 j'.frm) (key (k := 10) (v := .int .i64 j'.came) (key (k := 9) (v := .int .i64 j'.state) (key (k := 8) (v := .slice A' m' c') (key (k := 7) (v := .int .i64 j'.spec.prio) (key (k := 6) (v := .int .i64 j'.spec.long) (key (k := 5) (v := .bool j'.spec.whole) (key (k := 4) (v := .string j'.spec.tag) (key (k := 3) (v := .int .i64 j'.spec.gpus) (key (k := 2) (v := .int .i64 j'.spec.cores) (key (k := 1) (v := .int .i64 j'.spec.nodes) (key (k := 0) (v := .int .i64 j'.id) h0)))))))))))))
  have hA : ((((((((((((((jA j A m c).setIfInBounds 0 (.int .i64 j'.id)).setIfInBounds 1 (.int .i64 j'.spec.nodes)).setIfInBounds 2 (.int .i64 j'.spec.cores)).setIfInBounds 3 (.int .i64 j'.spec.gpus)).setIfInBounds 4 (.string j'.spec.tag)).setIfInBounds 5 (.bool j'.spec.whole)).setIfInBounds 6 (.int .i64 j'.spec.long)).setIfInBounds 7 (.int .i64 j'.spec.prio)).setIfInBounds 8 (.slice A' m' c')).setIfInBounds 9 (.int .i64 j'.state)).setIfInBounds 10 (.int .i64 j'.came)).setIfInBounds 11 (.int .i64 j'.frm)).setIfInBounds 12 (.int .i64 j'.to)) = jA j' A' m' c' := by kernel_rfl
  rw [hA] at h1
  exact ⟨h1.1, h1.2⟩
theorem below_store {v0 v1 v2 v3 v4 v5 v6 v7 v8 v9 v10 v11 v12 : Value} (hb : Below B w wr) (hg : B ≤ g) : Below B w (((((((((((((wr.setCell ⟨g, 0, none⟩ (v0)).setCell ⟨g, 1, none⟩ (v1)).setCell ⟨g, 2, none⟩ (v2)).setCell ⟨g, 3, none⟩ (v3)).setCell ⟨g, 4, none⟩ (v4)).setCell ⟨g, 5, none⟩ (v5)).setCell ⟨g, 6, none⟩ (v6)).setCell ⟨g, 7, none⟩ (v7)).setCell ⟨g, 8, none⟩ (v8)).setCell ⟨g, 9, none⟩ (v9)).setCell ⟨g, 10, none⟩ (v10)).setCell ⟨g, 11, none⟩ (v11)).setCell ⟨g, 12, none⟩ (v12)) :=
  (((((((((((((hb.setCell (p := ⟨g, _, none⟩) hg v0).setCell (p := ⟨g, _, none⟩) hg v1).setCell (p := ⟨g, _, none⟩) hg v2).setCell (p := ⟨g, _, none⟩) hg v3).setCell (p := ⟨g, _, none⟩) hg v4).setCell (p := ⟨g, _, none⟩) hg v5).setCell (p := ⟨g, _, none⟩) hg v6).setCell (p := ⟨g, _, none⟩) hg v7).setCell (p := ⟨g, _, none⟩) hg v8).setCell (p := ⟨g, _, none⟩) hg v9).setCell (p := ⟨g, _, none⟩) hg v10).setCell (p := ⟨g, _, none⟩) hg v11).setCell (p := ⟨g, _, none⟩) hg v12)
theorem jAsk_into {now s : Int} (h : JAsk w A m c j) (hs : I64 s) (hn : I64 now) : JAsk w A m c (intoJ j s now) :=
  ⟨h.reads, h.nil, h.cap, h.few, h.spec, h.int.1, hs, h.int.2.2.1, by show I64 (if s = 2 then now else j.frm); split; exact hn; exact h.int.2.2.2.1, by show I64 (if 2 < s then now else j.to); split; exact hn; exact h.int.2.2.2.2.1, h.int.2.2.2.2.2⟩
end
/-- a job and an error's number -/
def JPost (j : Jb) (er : Int) (w : World) (e : Ending) (w' : World) : Prop :=
  (∃ A m c, e = .returned (.tuple #[.agg #[.int .i64 j.id, .int .i64 j.spec.nodes, .int .i64 j.spec.cores, .int .i64 j.spec.gpus, .string j.spec.tag, .bool j.spec.whole, .int .i64 j.spec.long, .int .i64 j.spec.prio, .slice A m c, .int .i64 j.state, .int .i64 j.came, .int .i64 j.frm, .int .i64 j.to], .int .i64 er]) ∧ JAsk w' A m c j) ∧ Below w.heap.size w w'

section
variable {wr : World} {b g : Nat} {v0 v1 v2 v3 v4 v5 v6 v7 v8 v9 v10 v11 v12 : Value}
theorem heap_store (hne : b ≠ g) : (((((((((((((wr.setCell ⟨g, 0, none⟩ (v0)).setCell ⟨g, 1, none⟩ (v1)).setCell ⟨g, 2, none⟩ (v2)).setCell ⟨g, 3, none⟩ (v3)).setCell ⟨g, 4, none⟩ (v4)).setCell ⟨g, 5, none⟩ (v5)).setCell ⟨g, 6, none⟩ (v6)).setCell ⟨g, 7, none⟩ (v7)).setCell ⟨g, 8, none⟩ (v8)).setCell ⟨g, 9, none⟩ (v9)).setCell ⟨g, 10, none⟩ (v10)).setCell ⟨g, 11, none⟩ (v11)).setCell ⟨g, 12, none⟩ (v12)).heap[b]? = wr.heap[b]? := by
  rw [Below.heap_setCell _ _ _ _ hne, Below.heap_setCell _ _ _ _ hne, Below.heap_setCell _ _ _ _ hne, Below.heap_setCell _ _ _ _ hne, Below.heap_setCell _ _ _ _ hne, Below.heap_setCell _ _ _ _ hne, Below.heap_setCell _ _ _ _ hne, Below.heap_setCell _ _ _ _ hne, Below.heap_setCell _ _ _ _ hne, Below.heap_setCell _ _ _ _ hne, Below.heap_setCell _ _ _ _ hne, Below.heap_setCell _ _ _ _ hne, Below.heap_setCell _ _ _ _ hne]
theorem size_store : (((((((((((((wr.setCell ⟨g, 0, none⟩ (v0)).setCell ⟨g, 1, none⟩ (v1)).setCell ⟨g, 2, none⟩ (v2)).setCell ⟨g, 3, none⟩ (v3)).setCell ⟨g, 4, none⟩ (v4)).setCell ⟨g, 5, none⟩ (v5)).setCell ⟨g, 6, none⟩ (v6)).setCell ⟨g, 7, none⟩ (v7)).setCell ⟨g, 8, none⟩ (v8)).setCell ⟨g, 9, none⟩ (v9)).setCell ⟨g, 10, none⟩ (v10)).setCell ⟨g, 11, none⟩ (v11)).setCell ⟨g, 12, none⟩ (v12)).heap.size = wr.heap.size := by simp [World.setCell]
theorem BoxJ.kept {j : Jb} {A : Option Addr} {m c : Nat} (h : BoxJ wr b j A m c) (hne : b ≠ g) : BoxJ (((((((((((((wr.setCell ⟨g, 0, none⟩ (v0)).setCell ⟨g, 1, none⟩ (v1)).setCell ⟨g, 2, none⟩ (v2)).setCell ⟨g, 3, none⟩ (v3)).setCell ⟨g, 4, none⟩ (v4)).setCell ⟨g, 5, none⟩ (v5)).setCell ⟨g, 6, none⟩ (v6)).setCell ⟨g, 7, none⟩ (v7)).setCell ⟨g, 8, none⟩ (v8)).setCell ⟨g, 9, none⟩ (v9)).setCell ⟨g, 10, none⟩ (v10)).setCell ⟨g, 11, none⟩ (v11)).setCell ⟨g, 12, none⟩ (v12)) b j A m c := ⟨by rw [size_store]; exact h.lt, (heap_store hne).trans h.at'⟩
theorem BoxS.kept {s : Sp} (h : BoxS wr b s) (hne : b ≠ g) : BoxS (((((((((((((wr.setCell ⟨g, 0, none⟩ (v0)).setCell ⟨g, 1, none⟩ (v1)).setCell ⟨g, 2, none⟩ (v2)).setCell ⟨g, 3, none⟩ (v3)).setCell ⟨g, 4, none⟩ (v4)).setCell ⟨g, 5, none⟩ (v5)).setCell ⟨g, 6, none⟩ (v6)).setCell ⟨g, 7, none⟩ (v7)).setCell ⟨g, 8, none⟩ (v8)).setCell ⟨g, 9, none⟩ (v9)).setCell ⟨g, 10, none⟩ (v10)).setCell ⟨g, 11, none⟩ (v11)).setCell ⟨g, 12, none⟩ (v12)) b s := ⟨by rw [size_store]; exact h.lt, (heap_store hne).trans h.at'⟩
end
theorem jAsk_len {w : World} {A : Option Addr} {m c : Nat} {j : Jb} (h : JAsk w A m c j) : j.needs.length = m := h.reads.1
/-- a job's fields, one by one -/
theorem jpost_out {i n c g l p st ca fr to er : Int} {tg : ByteArray} {wh : Bool} {ns : List Int} {w w' : World} {e : Ending} (h : JPost ⟨i, ⟨n, c, g, tg, wh, l, p⟩, ns, st, ca, fr, to⟩ er w e w') :
    (∃ A m c', e = .returned (.tuple #[.agg #[.int .i64 i, .int .i64 n, .int .i64 c, .int .i64 g, .string tg, .bool wh, .int .i64 l, .int .i64 p, .slice A m c', .int .i64 st, .int .i64 ca, .int .i64 fr, .int .i64 to], .int .i64 er]) ∧ JAsk w' A m c' ⟨i, ⟨n, c, g, tg, wh, l, p⟩, ns, st, ca, fr, to⟩) ∧ Below w.heap.size w w' := h

end Go.Proofs.Ytimgdlddfnglaaa

namespace Go.Proofs.Ytimgdlddfnglaaa
open Go.RowKit

/-- a job as an element: thirteen cells, one of them a slice of numbers -/
def EJb : Elem Jb := fun w ok x vs => ∃ A m c, vs = [.int .i64 x.id, .int .i64 x.spec.nodes, .int .i64 x.spec.cores, .int .i64 x.spec.gpus, .string x.spec.tag, .bool x.spec.whole, .int .i64 x.spec.long, .int .i64 x.spec.prio, .slice A m c, .int .i64 x.state, .int .i64 x.came, .int .i64 x.frm, .int .i64 x.to] ∧ RN EI 1 w ok A m x.needs ∧ (A = none → c = 0) ∧ m ≤ c ∧ m ≤ maxLen ∧ SAsk x.spec ∧ (I64 x.id ∧ I64 x.state ∧ I64 x.came ∧ I64 x.frm ∧ I64 x.to ∧ ∀ n ∈ x.needs, I64 n)
theorem ejb_steady : Steady EJb := ⟨fun ⟨A, m, c, h1, h2, h3⟩ hk ho => ⟨A, m, c, h1, h2.keep ei_steady hk ho, h3⟩⟩
/-- '.slice A n c' reads as the queue l, all below block B -/
def RQ (w : World) (B : Nat) (A : Option Addr) (n : Nat) (l : Qu) : Prop := RN EJb 13 w (Lt B) A n l
section
variable {w w' : World} {B n m c : Nat} {A : Option Addr} {l : Qu} {j : Jb}
theorem RQ.len (h : RQ w B A n l) : l.length = n := h.1
theorem RQ.nil : RQ w B A 0 [] := RN.nil
theorem RQ.next (h : RQ w w.heap.size A n l) (hb : Below w.heap.size w w') : RQ w' w'.heap.size A n l := RN.next ejb_steady h hb
theorem RQ.below (h : RQ w B A n l) (hb : Below B w w') : RQ w' B A n l := RN.below ejb_steady h hb
theorem RQ.drewN (h : RQ w B A n l) (k : Nat) : RQ (w.drewN k) B A n l := RN.drewN h ejb_steady k
/-- the k-th job: its cells, and what is asked of it -/
theorem RQ.one (h : RQ w w.heap.size A n l) {k : Nat} (hk : k < n) : ∃ b off A2 m2 c2, A = some ⟨b, off, none⟩ ∧ b < w.heap.size ∧ (w.cell? ⟨b, off + k * 13, none⟩ = some (.int .i64 (jAt l k).id) ∧ w.cell? ⟨b, off + k * 13 + 1, none⟩ = some (.int .i64 (jAt l k).spec.nodes) ∧ w.cell? ⟨b, off + k * 13 + 2, none⟩ = some (.int .i64 (jAt l k).spec.cores) ∧ w.cell? ⟨b, off + k * 13 + 3, none⟩ = some (.int .i64 (jAt l k).spec.gpus) ∧ w.cell? ⟨b, off + k * 13 + 4, none⟩ = some (.string (jAt l k).spec.tag) ∧ w.cell? ⟨b, off + k * 13 + 5, none⟩ = some (.bool (jAt l k).spec.whole) ∧ w.cell? ⟨b, off + k * 13 + 6, none⟩ = some (.int .i64 (jAt l k).spec.long) ∧ w.cell? ⟨b, off + k * 13 + 7, none⟩ = some (.int .i64 (jAt l k).spec.prio) ∧ w.cell? ⟨b, off + k * 13 + 8, none⟩ = some (.slice A2 m2 c2) ∧ w.cell? ⟨b, off + k * 13 + 9, none⟩ = some (.int .i64 (jAt l k).state) ∧ w.cell? ⟨b, off + k * 13 + 10, none⟩ = some (.int .i64 (jAt l k).came) ∧ w.cell? ⟨b, off + k * 13 + 11, none⟩ = some (.int .i64 (jAt l k).frm) ∧ w.cell? ⟨b, off + k * 13 + 12, none⟩ = some (.int .i64 (jAt l k).to)) ∧ JAsk w A2 m2 c2 (jAt l k) := by
  have hl : k < l.length := by rw [h.1]; exact hk
  obtain ⟨b, off, vs, e, hb, _, hc, A2, m2, c2, hv, hr, h1, h2, h3, h4, h5⟩ := RN.at h (List.getElem?_eq_getElem hl)
  subst hv
  rw [jAt_lt hl]
  exact ⟨b, off, A2, m2, c2, e, hb, ⟨hc 0 _ rfl, hc 1 _ rfl, hc 2 _ rfl, hc 3 _ rfl, hc 4 _ rfl, hc 5 _ rfl, hc 6 _ rfl, hc 7 _ rfl, hc 8 _ rfl, hc 9 _ rfl, hc 10 _ rfl, hc 11 _ rfl, hc 12 _ rfl⟩, ⟨RN.ri hr, h1, h2, h3, h4, h5⟩⟩
/-- the k-th job, as an element -/
theorem RQ.el (h : RQ w B A n l) {k : Nat} (hk : k < n) : ∃ b off A2 m2 c2, A = some ⟨b, off, none⟩ ∧ b < B ∧ (w.cell? ⟨b, off + k * 13, none⟩ = some (.int .i64 (jAt l k).id) ∧ w.cell? ⟨b, off + k * 13 + 1, none⟩ = some (.int .i64 (jAt l k).spec.nodes) ∧ w.cell? ⟨b, off + k * 13 + 2, none⟩ = some (.int .i64 (jAt l k).spec.cores) ∧ w.cell? ⟨b, off + k * 13 + 3, none⟩ = some (.int .i64 (jAt l k).spec.gpus) ∧ w.cell? ⟨b, off + k * 13 + 4, none⟩ = some (.string (jAt l k).spec.tag) ∧ w.cell? ⟨b, off + k * 13 + 5, none⟩ = some (.bool (jAt l k).spec.whole) ∧ w.cell? ⟨b, off + k * 13 + 6, none⟩ = some (.int .i64 (jAt l k).spec.long) ∧ w.cell? ⟨b, off + k * 13 + 7, none⟩ = some (.int .i64 (jAt l k).spec.prio) ∧ w.cell? ⟨b, off + k * 13 + 8, none⟩ = some (.slice A2 m2 c2) ∧ w.cell? ⟨b, off + k * 13 + 9, none⟩ = some (.int .i64 (jAt l k).state) ∧ w.cell? ⟨b, off + k * 13 + 10, none⟩ = some (.int .i64 (jAt l k).came) ∧ w.cell? ⟨b, off + k * 13 + 11, none⟩ = some (.int .i64 (jAt l k).frm) ∧ w.cell? ⟨b, off + k * 13 + 12, none⟩ = some (.int .i64 (jAt l k).to)) ∧ EJb w (Lt B) (jAt l k) [.int .i64 (jAt l k).id, .int .i64 (jAt l k).spec.nodes, .int .i64 (jAt l k).spec.cores, .int .i64 (jAt l k).spec.gpus, .string (jAt l k).spec.tag, .bool (jAt l k).spec.whole, .int .i64 (jAt l k).spec.long, .int .i64 (jAt l k).spec.prio, .slice A2 m2 c2, .int .i64 (jAt l k).state, .int .i64 (jAt l k).came, .int .i64 (jAt l k).frm, .int .i64 (jAt l k).to] := by
  have hl : k < l.length := by rw [h.1]; exact hk
  obtain ⟨b, off, vs, e, hb, _, hc, hE⟩ := RN.at h (List.getElem?_eq_getElem hl)
  obtain ⟨A2, m2, c2, hv, h5⟩ := id hE
  subst hv
  rw [jAt_lt hl]
  exact ⟨b, off, A2, m2, c2, e, hb, ⟨hc 0 _ rfl, hc 1 _ rfl, hc 2 _ rfl, hc 3 _ rfl, hc 4 _ rfl, hc 5 _ rfl, hc 6 _ rfl, hc 7 _ rfl, hc 8 _ rfl, hc 9 _ rfl, hc 10 _ rfl, hc 11 _ rfl, hc 12 _ rfl⟩, hE⟩
/-- a beginning of it -/
theorem RQ.cut (h : RQ w B A n l) {k : Nat} (hk : k ≤ n) : RQ w B A k (l.take k) := by
  refine ⟨by rw [List.length_take, h.1]; omega, fun h0 => ?_⟩
  obtain ⟨b, off, e, hb, hc⟩ := h.2 (by omega)
  refine ⟨b, off, e, hb, fun i x hx => hc i x ?_⟩
  rw [List.getElem?_take] at hx
  split at hx
  · exact hx
  · cases hx
end
theorem job_info : (Try.prog.info? 30).map (fun i => (i.zero, i.size, i.bytes)) = some (some (.agg #[.int .i64 0, .int .i64 0, .int .i64 0, .int .i64 0, .string ⟨#[]⟩, .bool false, .int .i64 0, .int .i64 0, .slice none 0 0, .int .i64 0, .int .i64 0, .int .i64 0, .int .i64 0]), 13, 128) := by kernel_rfl
/-- a queue that is asked about -/
structure QAsk (w : World) (A : Option Addr) (n c : Nat) (l : Qu) : Prop where
  reads : RQ w w.heap.size A n l
  nil : A = none → c = 0
  cap : n ≤ c
  few : n ≤ maxLen
theorem QAsk.next {w w' : World} {A : Option Addr} {n c : Nat} {l : Qu} (h : QAsk w A n c l) (hb : Below w.heap.size w w') : QAsk w' A n c l := ⟨h.reads.next hb, h.nil, h.cap, h.few⟩
theorem qask_nil (w : World) : QAsk w none 0 0 [] := ⟨RQ.nil, fun _ => rfl, Nat.le_refl _, Nat.zero_le _⟩
/-- a queue and an error's number -/
def QEPost (a : Qu) (er : Int) (w : World) (e : Ending) (w' : World) : Prop :=
  (∃ A1 n1 c1, e = .returned (.tuple #[.slice A1 n1 c1, .int .i64 er]) ∧ QAsk w' A1 n1 c1 a) ∧ Below w.heap.size w w'
/-- a queue, a number, and an error's number -/
def QNPost (a : Qu) (n er : Int) (w : World) (e : Ending) (w' : World) : Prop :=
  (∃ A1 n1 c1, e = .returned (.tuple #[.slice A1 n1 c1, .int .i64 n, .int .i64 er]) ∧ QAsk w' A1 n1 c1 a) ∧ Below w.heap.size w w'
/-- a job and a yes or no -/
def JBPost (j : Jb) (v : Bool) (w : World) (e : Ending) (w' : World) : Prop :=
  (∃ A m c, e = .returned (.tuple #[.agg #[.int .i64 j.id, .int .i64 j.spec.nodes, .int .i64 j.spec.cores, .int .i64 j.spec.gpus, .string j.spec.tag, .bool j.spec.whole, .int .i64 j.spec.long, .int .i64 j.spec.prio, .slice A m c, .int .i64 j.state, .int .i64 j.came, .int .i64 j.frm, .int .i64 j.to], .bool v]) ∧ JAsk w' A m c j) ∧ Below w.heap.size w w'
/-- a job by value, as an element: what it reaches was there -/
theorem JAsk.el {w w' : World} {A : Option Addr} {m c : Nat} {j : Jb} (hh : JAsk w A m c j) (hb : Below w.heap.size w w') : EJb w' (Lt w.heap.size) j [.int .i64 j.id, .int .i64 j.spec.nodes, .int .i64 j.spec.cores, .int .i64 j.spec.gpus, .string j.spec.tag, .bool j.spec.whole, .int .i64 j.spec.long, .int .i64 j.spec.prio, .slice A m c, .int .i64 j.state, .int .i64 j.came, .int .i64 j.frm, .int .i64 j.to] := by
  refine ⟨A, m, c, rfl, ⟨hh.reads.1, fun h0 => ?_⟩, hh.nil, hh.cap, hh.few, hh.spec, hh.int⟩
  obtain ⟨b, off, e, hlt, hc⟩ := hh.reads.2 h0
  refine ⟨b, off, e, hlt, fun j x hx => ⟨[.int .i64 x], rfl, fun i v hv => ?_, rfl⟩⟩
  have hj := (List.getElem?_eq_some_iff.1 hx).1
  have hi : i = 0 := by have := (List.getElem?_eq_some_iff.1 hv).1; simpa using this
  subst hi
  have hv' : Value.int .i64 x = v := by simpa using hv
  subst hv'
  rw [show off + (j * 1 + 0) = off + j by omega]
  have := (hb.cell (p := ⟨b, off + j, none⟩) hlt).trans (hc j (by have := hh.reads.1; omega))
  rw [this, List.getD, hx]
  rfl

end Go.Proofs.Ytimgdlddfnglaaa

namespace Go.Proofs.Ytimgdlddfnglaaa
open Go.ChangeShapes Go.WideShapes Go.ChangeAt Go.RowKit Go.Deep

set_option maxRecDepth 100000 in
theorem open_RQ {H : Type} {enc : TypeId × Value → H} {W : World} {b0 : Nat} {v : Value} {d : DataW H} {ps : List MemPlace}
    (hval : Value.okWide Try.prog W .any b0 22 v) (h : DataW.Trod enc Try.prog W 0 (fun _ => true) true 22 v d ps) :
    ∃ A n c l, v = .slice A n c ∧ QAsk W A n c l := by
  obtain ⟨fuel, hf⟩ := h
  obtain ⟨a', n', c', rfl⟩ := okWide_slice Try.underlying22 hval
  obtain ⟨A, n, c, xs, e, hr, h1, h2, h3⟩ := open_RN (E := EJb) (C := 13) Try.underlying22 (by kernel_rfl) (by omega) (fun n cs y hl ht => by
    obtain ⟨A, m, c, j, e, ha⟩ := open_job hl ht
    exact ⟨j, by rw [e]; exact ha.el (Below.refl _ _)⟩) hf
  simp [Value.cells] at e
  obtain ⟨rfl, rfl, rfl⟩ := e
  exact ⟨_, _, _, xs, rfl, hr, h1, h2, h3⟩

end Go.Proofs.Ytimgdlddfnglaaa
