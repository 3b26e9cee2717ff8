/- What a table of holdings is, and what is added, dropped, got, cut short, busy, over, in plain words. No program's text is walked here. What is taken of the library's tables, where a seat's code reaches them: nothing, or that they lie as Go's text lays them. Words for memory: a slice of holdings that reads as a table; a holding by value. How layer 10's arguments are opened: a table of holdings, a holding by value. What the calls of layer 10 answer, in words for memory; tables that can be looked at whole. The reference's Same of two lists of numbers (bailiwickref01). What the small readers of a slice of int answer: set.Right, the reference's Right, in and Same; the slices read as lists of numbers. -/
import Derived.Test.YtbiofikijehlcaaMg01
import Derived.LoopTactic
import Derived.Deep.QuietTactic
import Derived.BigQuiet
namespace Go.Proofs.Ytbiofikijehlcaa

/-- a holding: its number, which things, from when till when -/
structure Hd where
  id : Int
  things : List Int
  frm : Int
  to : Int
def hd0 : Hd := ⟨0, [], 0, 0⟩
abbrev Tb := List Hd
/-- do two spans meet -/
def meetsZ (a b c d : Int) : Bool := decide (a < b ∧ c < d ∧ a < d ∧ c < b)
/-- have two sets a number in common -/
def touchB (a b : List Int) : Bool := a.any fun n => b.contains n
def clashH (a b : Hd) : Bool := meetsZ a.frm a.to b.frm b.to && touchB a.things b.things
def MayH (h : Hd) : Prop := 0 < h.things.length ∧ rightB h.things = true ∧ 0 ≤ h.frm ∧ h.frm < h.to ∧ h.to ≤ 4611686018427387904
instance (h : Hd) : Decidable (MayH h) := by unfold MayH; infer_instance
def mayH (h : Hd) : Bool := decide (MayH h)
def Ahead (a b : Hd) : Prop := a.id < b.id ∧ clashH a b = false
instance (a b : Hd) : Decidable (Ahead a b) := by unfold Ahead; infer_instance
structure RightT (l : Tb) : Prop where
  few : l.length ≤ 256
  may : ∀ h ∈ l, MayH h
  row : l.Pairwise Ahead
def rightT (l : Tb) : Bool := decide (l.length ≤ 256) && (l.all mayH && decide (l.Pairwise Ahead))
theorem rightT_is {l : Tb} : rightT l = true ↔ RightT l := by
  unfold rightT mayH
  rw [Bool.and_eq_true, Bool.and_eq_true, decide_eq_true_eq, decide_eq_true_eq, List.all_eq_true]
  constructor
  · rintro ⟨h1, h2, h3⟩
    exact ⟨h1, fun h hh => of_decide_eq_true (h2 h hh), h3⟩
  · rintro ⟨h1, h2, h3⟩
    exact ⟨h1, fun h hh => decide_eq_true (h2 h hh), h3⟩
/-- the table with h, by rising numbers -/
def insT (l : Tb) (h : Hd) : Tb := l.filter (fun x => decide (x.id < h.id)) ++ h :: l.filter (fun x => decide (h.id < x.id))
def hasT (l : Tb) (id : Int) : Bool := l.any fun x => x.id == id
def getT (l : Tb) (id : Int) : Hd := ((if rightT l = true then l else []).find? fun x => x.id == id).getD hd0
def gotT (l : Tb) (id : Int) : Bool := rightT l && hasT l id
def addE (l : Tb) (h : Hd) : Int := if (rightT l && mayH h) = false then 1 else if hasT l h.id = true then 7 else if 256 ≤ l.length ∨ (l.any fun x => clashH x h) = true then 5 else 0
def addT (l : Tb) (h : Hd) : Tb := if addE l h = 0 then insT l h else l
def dropE (l : Tb) (id : Int) : Int := if rightT l = false then 1 else if hasT l id = false then 6 else 0
def dropT (l : Tb) (id : Int) : Tb := if dropE l id = 0 then l.filter (fun x => x.id != id) else l
def cutE (l : Tb) (id to : Int) : Int := if rightT l = false then 1 else if hasT l id = false then 6 else if to ≤ (getT l id).frm ∨ (getT l id).to < to then 1 else 0
def cutT (l : Tb) (id to : Int) : Tb := if cutE l id to = 0 then l.map (fun x => if x.id = id then { x with to := to } else x) else l
/-- what is busy in a span -/
def busyP (l : Tb) (a b : Int) (n : Int) : Bool := l.any fun x => meetsZ x.frm x.to a b && x.things.contains n
def busyT (l : Tb) (a b : Int) : List Int := if rightT l = true then pickL (busyP l a b) else []
def restT (l : Tb) (now : Int) : Tb := if rightT l = true then l.filter (fun x => decide (now < x.to)) else l
def goneT (l : Tb) (now : Int) : Tb := if rightT l = true then l.filter (fun x => decide (x.to ≤ now)) else []
/-- a number more in a rising list -/
def insZ (x : Int) : List Int → List Int
  | [] => [x]
  | y :: r => if x < y then x :: y :: r else if x = y then y :: r else y :: insZ x r
def endsT (l : Tb) (frm : Int) : List Int := if rightT l = true then ((l.map Hd.to).filter fun t => decide (frm < t)).foldr insZ [] else []

/-! two rows by rising numbers with the same holdings are one -/
theorem table_ext : ∀ {a b : Tb}, a.Pairwise (fun x y => x.id < y.id) → b.Pairwise (fun x y => x.id < y.id) → (∀ x, x ∈ a ↔ x ∈ b) → a = b
  | [], [], _, _, _ => rfl
  | [], y :: b, _, _, h => by have := (h y).2 (List.mem_cons_self ..); cases this
  | x :: a, [], _, _, h => by have := (h x).1 (List.mem_cons_self ..); cases this
  | x :: a, y :: b, ha, hb, h => by
    rw [List.pairwise_cons] at ha hb
    have hxy : x = y := by
      rcases List.mem_cons.1 ((h x).1 (List.mem_cons_self ..)) with e | e
      · exact e
      · rcases List.mem_cons.1 ((h y).2 (List.mem_cons_self ..)) with e' | e'
        · exact e'.symm
        · have h1 := hb.1 x e
          have h2 := ha.1 y e'
          omega
    subst hxy
    congr 1
    refine table_ext ha.2 hb.2 fun z => ?_
    constructor
    · intro hz
      rcases List.mem_cons.1 ((h z).1 (List.mem_cons_of_mem _ hz)) with e | e
      · subst e; have := ha.1 z hz; omega
      · exact e
    · intro hz
      rcases List.mem_cons.1 ((h z).2 (List.mem_cons_of_mem _ hz)) with e | e
      · subst e; have := hb.1 z hz; omega
      · exact e

section
variable {l : Tb} {h a b x : Hd} {id : Int}
theorem RightT.ids (hl : RightT l) : l.Pairwise (fun x y => x.id < y.id) := hl.row.imp fun h => h.1
theorem RightT.sub {m : Tb} (hl : RightT l) (h : m.Sublist l) : RightT m := ⟨Nat.le_trans h.length_le hl.few, fun x hx => hl.may x (h.subset hx), hl.row.sublist h⟩
theorem RightT.filter (hl : RightT l) (p : Hd → Bool) : RightT (l.filter p) := hl.sub List.filter_sublist
/-- of one number there is one holding -/
theorem RightT.one (hl : RightT l) (ha : a ∈ l) (hb : b ∈ l) (h : a.id = b.id) : a = b := by
  have := hl.ids
  induction l with
  | nil => cases ha
  | cons y r ih =>
    rw [List.pairwise_cons] at this
    rcases List.mem_cons.1 ha with e1 | e1
    · rcases List.mem_cons.1 hb with e2 | e2
      · rw [e1, e2]
      · have := this.1 b e2; rw [← e1] at this; omega
    · rcases List.mem_cons.1 hb with e2 | e2
      · have := this.1 a e1; rw [← e2] at this; omega
      · exact ih (hl.sub (List.sublist_cons_self ..)) e1 e2 this.2
theorem meets_comm (a b c d : Int) : meetsZ a b c d = meetsZ c d a b := decide_eq_decide.2 (by omega)
theorem touch_iff {a b : List Int} : touchB a b = true ↔ ∃ n, n ∈ a ∧ n ∈ b := by
  unfold touchB
  rw [List.any_eq_true]
  constructor
  · rintro ⟨n, h1, h2⟩; exact ⟨n, h1, List.contains_iff_mem.1 h2⟩
  · rintro ⟨n, h1, h2⟩; exact ⟨n, h1, List.contains_iff_mem.2 h2⟩
theorem touch_comm (a b : List Int) : touchB a b = touchB b a := by
  rw [Bool.eq_iff_iff, touch_iff, touch_iff]
  exact ⟨fun ⟨n, h1, h2⟩ => ⟨n, h2, h1⟩, fun ⟨n, h1, h2⟩ => ⟨n, h2, h1⟩⟩
theorem clash_comm (a b : Hd) : clashH a b = clashH b a := by unfold clashH; rw [meets_comm, touch_comm]
theorem has_iff_id : hasT l id = true ↔ ∃ x ∈ l, x.id = id := by
  unfold hasT
  rw [List.any_eq_true]
  exact ⟨fun ⟨x, h1, h2⟩ => ⟨x, h1, by simpa using h2⟩, fun ⟨x, h1, h2⟩ => ⟨x, h1, by simpa using h2⟩⟩
theorem has_no : hasT l id = false ↔ ∀ x ∈ l, x.id ≠ id := by
  constructor
  · intro h x hx e
    rw [has_iff_id.2 ⟨x, hx, e⟩] at h; cases h
  · intro h
    refine Bool.eq_false_iff.2 fun h' => ?_
    obtain ⟨x, hx, e⟩ := has_iff_id.1 h'
    exact h x hx e
theorem get_is (hr : rightT l = true) (hx : x ∈ l) : getT l x.id = x := by
  have hl := rightT_is.1 hr
  unfold getT
  rw [if_pos hr]
  cases hf : l.find? (fun y => y.id == x.id) with
  | none => exact absurd (List.find?_eq_none.1 hf x hx) (by simp)
  | some y =>
    have h1 := List.find?_some hf
    have h2 := List.mem_of_find?_eq_some hf
    show y = x
    exact hl.one h2 hx (by simpa using h1)
theorem get_mem (h : gotT l id = true) : getT l id ∈ l ∧ (getT l id).id = id := by
  unfold gotT at h
  rw [Bool.and_eq_true] at h
  obtain ⟨x, hx, e⟩ := has_iff_id.1 h.2
  subst e
  rw [get_is h.1 hx]
  exact ⟨hx, rfl⟩
theorem get_none (h : gotT l id = false) : getT l id = hd0 := by
  unfold getT
  split
  · rename_i hr
    unfold gotT at h
    rw [hr, Bool.true_and] at h
    rw [List.find?_eq_none.2 (fun x hx => by simpa using has_no.1 h x hx)]
    rfl
  · rfl

/-! Adding -/
structure MayAdd (l : Tb) (h : Hd) : Prop where
  right : RightT l
  may : MayH h
  new : ∀ x ∈ l, x.id ≠ h.id
  room : l.length < 256
  free : ∀ x ∈ l, clashH x h = false
theorem add_ok : addE l h = 0 ↔ MayAdd l h := by
  unfold addE
  constructor
  · intro he
    split at he
    · omega
    · rename_i h1
      split at he
      · omega
      · rename_i h2
        split at he
        · omega
        · rename_i h3
          rw [Bool.not_eq_false, Bool.and_eq_true] at h1
          rw [Bool.not_eq_true] at h2
          rw [not_or, Bool.not_eq_true] at h3
          refine ⟨rightT_is.1 h1.1, of_decide_eq_true h1.2, has_no.1 h2, by omega, fun x hx => ?_⟩
          have := List.any_eq_false.1 h3.2 x hx
          simpa using this
  · intro hm
    rw [if_neg (by rw [rightT_is.2 hm.right, show mayH h = true from decide_eq_true hm.may]; simp), if_neg (by rw [has_no.2 hm.new]; simp), if_neg]
    rw [not_or, Bool.not_eq_true, List.any_eq_false]
    exact ⟨by have := hm.room; omega, fun x hx => by rw [hm.free x hx]; simp⟩
theorem mem_ins : x ∈ insT l h ↔ (x ∈ l ∧ x.id ≠ h.id) ∨ x = h := by
  unfold insT
  rw [List.mem_append, List.mem_cons, List.mem_filter, List.mem_filter, decide_eq_true_eq, decide_eq_true_eq]
  constructor
  · rintro (⟨h1, h2⟩ | h1 | ⟨h1, h2⟩)
    · exact .inl ⟨h1, by omega⟩
    · exact .inr h1
    · exact .inl ⟨h1, by omega⟩
  · rintro (⟨h1, h2⟩ | h1)
    · by_cases h3 : x.id < h.id
      · exact .inl ⟨h1, h3⟩
      · exact .inr (.inr ⟨h1, by omega⟩)
    · exact .inr (.inl h1)
theorem MayAdd.mem (hm : MayAdd l h) : x ∈ insT l h ↔ x ∈ l ∨ x = h := by
  rw [mem_ins]
  constructor
  · rintro (⟨h1, _⟩ | h1)
    · exact .inl h1
    · exact .inr h1
  · rintro (h1 | h1)
    · exact .inl ⟨h1, hm.new x h1⟩
    · exact .inr h1
theorem ins_len (hn : ∀ x ∈ l, x.id ≠ h.id) : (insT l h).length = l.length + 1 := by
  unfold insT
  rw [List.length_append, List.length_cons]
  have : ∀ l : Tb, (∀ x ∈ l, x.id ≠ h.id) → (l.filter fun x => decide (x.id < h.id)).length + (l.filter fun x => decide (h.id < x.id)).length = l.length := by
    intro l hl
    induction l with
    | nil => rfl
    | cons y r ih =>
      have ih := ih (fun x hx => hl x (List.mem_cons_of_mem _ hx))
      have hy := hl y (List.mem_cons_self ..)
      rw [List.filter_cons, List.filter_cons]
      by_cases h1 : y.id < h.id
      · rw [if_pos (by simpa using h1), if_neg (by simp; omega)]; simp; omega
      · rw [if_neg (by simpa using h1), if_pos (by simp; omega)]; simp; omega
  have := this l hn
  omega
theorem MayAdd.ids (hm : MayAdd l h) : (insT l h).Pairwise Ahead := by
  unfold insT
  rw [List.pairwise_append, List.pairwise_cons]
  refine ⟨(hm.right.filter _).row, ⟨fun x hx => ?_, (hm.right.filter _).row⟩, fun x hx y hy => ?_⟩
  · rw [List.mem_filter, decide_eq_true_eq] at hx
    exact ⟨hx.2, by rw [clash_comm]; exact hm.free x hx.1⟩
  · rw [List.mem_filter, decide_eq_true_eq] at hx
    rcases List.mem_cons.1 hy with e | e
    · subst e; exact ⟨hx.2, hm.free x hx.1⟩
    · rw [List.mem_filter, decide_eq_true_eq] at e
      have hlt : x.id < y.id := by omega
      -- both stand in the table
      have key : ∀ l : Tb, l.Pairwise Ahead → x ∈ l → y ∈ l → Ahead x y := by
        intro l
        induction l with
        | nil => intro _ h1; cases h1
        | cons z r ih =>
          intro hp h1 h2
          rw [List.pairwise_cons] at hp
          rcases List.mem_cons.1 h1 with e1 | e1
          · rcases List.mem_cons.1 h2 with e2 | e2
            · rw [e1, e2] at hlt; omega
            · rw [e1]; exact hp.1 y e2
          · rcases List.mem_cons.1 h2 with e2 | e2
            · have := (hp.1 x e1).1; rw [← e2] at this; omega
            · exact ih hp.2 e1 e2
      exact key l hm.right.row hx.1 e.1
theorem MayAdd.right' (hm : MayAdd l h) : RightT (insT l h) :=
  ⟨by rw [ins_len hm.new]; exact hm.room, fun x hx => by
    rcases hm.mem.1 hx with e | e
    · exact hm.right.may x e
    · subst e; exact hm.may, hm.ids⟩
/-- what was added and dropped leaves all as it was -/
theorem MayAdd.drop (hm : MayAdd l h) : (insT l h).filter (fun x => x.id != h.id) = l := by
  refine table_ext (hm.right'.filter _).ids hm.right.ids fun x => ?_
  rw [List.mem_filter, hm.mem]
  constructor
  · rintro ⟨h1 | h1, h2⟩
    · exact h1
    · subst h1; simp at h2
  · intro hx
    exact ⟨.inl hx, by simpa using hm.new x hx⟩
/-- in whatever order two are added -/
theorem MayAdd.swap (ha : MayAdd l a) (hb : MayAdd l b) (hab : MayAdd (insT l a) b) (hba : MayAdd (insT l b) a) : insT (insT l a) b = insT (insT l b) a := by
  refine table_ext hab.right'.ids hba.right'.ids fun x => ?_
  rw [hab.mem, hba.mem, ha.mem, hb.mem]
  constructor
  · rintro ((h | h) | h)
    · exact .inl (.inl h)
    · exact .inr h
    · exact .inl (.inr h)
  · rintro ((h | h) | h)
    · exact .inl (.inl h)
    · exact .inr h
    · exact .inl (.inr h)
theorem add_two (ha : MayAdd l a) : MayAdd (insT l a) b ↔ MayAdd l b ∧ MayAdd (insT l b) a := by
  constructor
  · intro h
    have hb : MayAdd l b := ⟨ha.right, h.may, fun x hx => h.new x (ha.mem.2 (.inl hx)), ha.room, fun x hx => h.free x (ha.mem.2 (.inl hx))⟩
    refine ⟨hb, hb.right', ha.may, fun x hx => ?_, ?_, fun x hx => ?_⟩
    · rcases hb.mem.1 hx with e | e
      · exact ha.new x e
      · subst e; exact fun e2 => h.new a (ha.mem.2 (.inr rfl)) e2.symm
    · have := h.room; rw [ins_len ha.new] at this; rw [ins_len hb.new]; exact this
    · rcases hb.mem.1 hx with e | e
      · exact ha.free x e
      · subst e; rw [clash_comm]; exact h.free a (ha.mem.2 (.inr rfl))
  · rintro ⟨hb, hba⟩
    refine ⟨ha.right', hb.may, fun x hx => ?_, ?_, fun x hx => ?_⟩
    · rcases ha.mem.1 hx with e | e
      · exact hb.new x e
      · subst e; exact fun e2 => hba.new b (hb.mem.2 (.inr rfl)) e2.symm
    · have := hba.room; rw [ins_len hb.new] at this; rw [ins_len ha.new]; exact this
    · rcases ha.mem.1 hx with e | e
      · exact hb.free x e
      · subst e; rw [clash_comm]; exact hba.free b (hb.mem.2 (.inr rfl))
theorem getT_add (hm : MayAdd l h) : getT (insT l h) h.id = h := get_is (rightT_is.2 hm.right') (hm.mem.2 (.inr rfl))
theorem getT_old (hm : MayAdd l h) (hx : x ∈ l) : getT (insT l h) x.id = x := get_is (rightT_is.2 hm.right') (hm.mem.2 (.inl hx))

/-! Cutting short -/
theorem meets_less {a b b' c d : Int} (h : b' ≤ b) (hm : meetsZ a b' c d = true) : meetsZ a b c d = true := by
  unfold meetsZ at *
  rw [decide_eq_true_eq] at *
  omega
theorem meets_less' {a b c d d' : Int} (h : d' ≤ d) (hm : meetsZ a b c d' = true) : meetsZ a b c d = true := by
  rw [meets_comm] at hm ⊢; exact meets_less h hm
def shortH (id to : Int) (x : Hd) : Hd := if x.id = id then { x with to := to } else x
theorem short_id (id to : Int) (x : Hd) : (shortH id to x).id = x.id := by unfold shortH; split <;> rfl
theorem short_things (id to : Int) (x : Hd) : (shortH id to x).things = x.things := by unfold shortH; split <;> rfl
theorem short_frm (id to : Int) (x : Hd) : (shortH id to x).frm = x.frm := by unfold shortH; split <;> rfl
theorem cut_right {to : Int} (hl : RightT l) (hx : x ∈ l) (h1 : x.frm < to) (h2 : to ≤ x.to) : RightT (l.map (shortH x.id to)) := by
  have hto : ∀ y ∈ l, (shortH x.id to y).to ≤ y.to ∧ y.frm < (shortH x.id to y).to := by
    intro y hy
    unfold shortH
    split
    · rename_i e
      have := hl.one hy hx e
      subst this
      exact ⟨h2, h1⟩
    · exact ⟨Int.le_refl _, (hl.may y hy).2.2.2.1⟩
  refine ⟨by rw [List.length_map]; exact hl.few, fun y hy => ?_, ?_⟩
  · obtain ⟨z, hz, rfl⟩ := List.mem_map.1 hy
    have := hl.may z hz
    have ht := hto z hz
    unfold MayH at *
    rw [short_things, short_frm]
    exact ⟨this.1, this.2.1, this.2.2.1, ht.2, by omega⟩
  · rw [List.pairwise_map]
    have key : ∀ m : Tb, (∀ y ∈ m, y ∈ l) → m.Pairwise Ahead → m.Pairwise (fun a b => Ahead (shortH x.id to a) (shortH x.id to b)) := by
      intro m
      induction m with
      | nil => intro _ _; exact List.Pairwise.nil
      | cons y r ih =>
        intro hm hp
        rw [List.pairwise_cons] at hp ⊢
        refine ⟨fun z hz => ?_, ih (fun z hz => hm z (List.mem_cons_of_mem _ hz)) hp.2⟩
        have h0 := hp.1 z hz
        have hy := hto y (hm y (List.mem_cons_self ..))
        have hz' := hto z (hm z (List.mem_cons_of_mem _ hz))
        refine ⟨by rw [short_id, short_id]; exact h0.1, ?_⟩
        refine Bool.eq_false_iff.2 fun hc => ?_
        have hc0 := h0.2
        unfold clashH at hc hc0
        rw [Bool.and_eq_true, short_things, short_things, short_frm, short_frm] at hc
        rw [meets_less hy.1 (meets_less' hz'.1 hc.1), hc.2] at hc0
        cases hc0
    exact key l (fun _ h => h) hl.row

/-! What is busy, and what is over -/
theorem busy_right (a b : Int) : rightB (busyT l a b) = true := by
  unfold busyT
  split
  · exact right_pickL _
  · rfl
theorem mem_busy (hr : rightT l = true) {a b n : Int} : n ∈ busyT l a b ↔ ∃ x ∈ l, meetsZ x.frm x.to a b = true ∧ n ∈ x.things := by
  unfold busyT busyP
  rw [if_pos hr, mem_pickL]
  constructor
  · rintro ⟨_, _, h⟩
    obtain ⟨x, hx, h⟩ := List.any_eq_true.1 h
    rw [Bool.and_eq_true, List.contains_iff_mem] at h
    exact ⟨x, hx, h⟩
  · rintro ⟨x, hx, h1, h2⟩
    have := right_mem ((rightT_is.1 hr).may x hx).2.1 n h2
    exact ⟨this.1, this.2, List.any_eq_true.2 ⟨x, hx, by rw [h1, List.contains_iff_mem.2 h2]; rfl⟩⟩
theorem rest_rest {a b : Int} (h : a ≤ b) : restT (restT l a) b = restT l b := by
  unfold restT
  by_cases hr : rightT l = true
  · rw [if_pos hr, if_pos hr, if_pos (rightT_is.2 ((rightT_is.1 hr).filter _)), List.filter_filter]
    congr 1
    funext x
    rw [Bool.eq_iff_iff, Bool.and_eq_true, decide_eq_true_eq, decide_eq_true_eq]
    omega
  · rw [if_neg hr, if_neg hr]
theorem busy_part {a b c : Int} (h : b ≤ c) : partB (busyT l a b) (busyT l a c) = true := by
  unfold partB
  rw [busy_right, busy_right, Bool.true_and, Bool.true_and, List.all_eq_true]
  intro n hn
  rw [List.contains_iff_mem]
  by_cases hr : rightT l = true
  · rw [mem_busy hr] at hn ⊢
    obtain ⟨x, hx, h1, h2⟩ := hn
    exact ⟨x, hx, meets_less' h h1, h2⟩
  · unfold busyT at hn; rw [if_neg hr] at hn; cases hn
theorem busy_join {a b c : Int} (h1 : a < b) (h2 : b < c) : joinL (busyT l a b) (busyT l b c) = busyT l a c := by
  refine right_ext (right_joinL _ _) (busy_right _ _) fun n => ?_
  rw [mem_joinL (busy_right _ _) (busy_right _ _)]
  by_cases hr : rightT l = true
  · rw [mem_busy hr, mem_busy hr, mem_busy hr]
    constructor
    · rintro (⟨x, hx, hm, hn⟩ | ⟨x, hx, hm, hn⟩)
      · exact ⟨x, hx, meets_less' (by omega) hm, hn⟩
      · refine ⟨x, hx, ?_, hn⟩
        unfold meetsZ at *
        rw [decide_eq_true_eq] at *
        omega
    · rintro ⟨x, hx, hm, hn⟩
      by_cases hb : meetsZ x.frm x.to a b = true
      · exact .inl ⟨x, hx, hb, hn⟩
      · refine .inr ⟨x, hx, ?_, hn⟩
        unfold meetsZ at *
        rw [decide_eq_true_eq] at *
        omega
  · unfold busyT
    rw [if_neg hr, if_neg hr, if_neg hr]
    simp
/-- what is busy in a span is what can't be added for it -/
theorem busy_apart (hr : rightT l = true) (hh : MayH h) : (∀ x ∈ l, clashH x h = false) ↔ apartB (busyT l h.frm h.to) h.things = true := by
  unfold apartB
  rw [busy_right, hh.2.1, Bool.true_and, Bool.true_and, List.all_eq_true]
  constructor
  · intro hc n hn
    rw [Bool.not_eq_true', ← Bool.not_eq_true, List.contains_iff_mem]
    intro hm
    obtain ⟨x, hx, h1, h2⟩ := (mem_busy hr).1 hn
    have := hc x hx
    unfold clashH at this
    rw [h1, touch_iff.2 ⟨n, h2, hm⟩] at this
    cases this
  · intro ha x hx
    refine Bool.eq_false_iff.2 fun hc => ?_
    unfold clashH at hc
    rw [Bool.and_eq_true] at hc
    obtain ⟨n, h1, h2⟩ := touch_iff.1 hc.2
    have := ha n ((mem_busy hr).2 ⟨x, hx, hc.1, h1⟩)
    rw [List.contains_iff_mem.2 h2] at this
    cases this
end

/-! How much is busy at a time -/
theorem right_nodup : ∀ {l : List Int}, rightB l = true → l.Nodup
  | [], _ => List.nodup_nil
  | x :: r, h => by
    rw [List.nodup_cons]
    refine ⟨fun hm => ?_, right_nodup (right_tail h)⟩
    have := right_below h x hm
    omega
theorem join_len {a b : List Int} (ha : rightB a = true) (hb : rightB b = true) (h : ∀ n ∈ a, n ∉ b) : (joinL a b).length = a.length + b.length := by
  rw [← List.length_append]
  refine List.Perm.length_eq ((List.perm_ext_iff_of_nodup (right_nodup (right_joinL a b)) ?_).2 fun n => ?_)
  · rw [List.nodup_append]
    refine ⟨right_nodup ha, right_nodup hb, fun x hx y hy e => ?_⟩
    subst e
    exact h x hx hy
  · rw [mem_joinL ha hb, List.mem_append]
/-- of the first k holdings: what is busy -/
def busyN (l : Tb) (a b : Int) (k : Nat) : List Int := pickL (busyP (l.take k) a b)
theorem busyN_zero (l : Tb) (a b : Int) : busyN l a b 0 = [] := by
  refine right_ext (right_pickL _) (by rfl) fun n => ?_
  unfold busyN
  rw [mem_pickL]
  constructor
  · rintro ⟨_, _, h⟩
    simp [busyP] at h
  · intro h; cases h
theorem busyN_all {l : Tb} (hr : rightT l = true) (a b : Int) : busyN l a b l.length = busyT l a b := by
  unfold busyN busyT
  rw [if_pos hr, List.take_length]
theorem busyN_right (l : Tb) (a b : Int) (k : Nat) : rightB (busyN l a b k) = true := right_pickL _
theorem mem_busyN {l : Tb} (hl : RightT l) {a b n : Int} {k : Nat} : n ∈ busyN l a b k ↔ ∃ x ∈ l.take k, meetsZ x.frm x.to a b = true ∧ n ∈ x.things := by
  unfold busyN busyP
  rw [mem_pickL]
  constructor
  · rintro ⟨_, _, h⟩
    obtain ⟨x, hx, h⟩ := List.any_eq_true.1 h
    rw [Bool.and_eq_true, List.contains_iff_mem] at h
    exact ⟨x, hx, h⟩
  · rintro ⟨x, hx, h1, h2⟩
    have := right_mem (hl.may x (List.mem_of_mem_take hx)).2.1 n h2
    exact ⟨this.1, this.2, List.any_eq_true.2 ⟨x, hx, by rw [h1, List.contains_iff_mem.2 h2]; rfl⟩⟩
theorem busyN_succ {l : Tb} (hl : RightT l) (a b : Int) {k : Nat} (hk : k < l.length) :
    busyN l a b (k + 1) = if meetsZ l[k].frm l[k].to a b = true then joinL (busyN l a b k) l[k].things else busyN l a b k := by
  have hx := hl.may l[k] (List.getElem_mem hk)
  refine right_ext (busyN_right _ _ _ _) (by split; exact right_joinL _ _; exact busyN_right _ _ _ _) fun n => ?_
  rw [mem_busyN hl, List.take_succ_eq_append_getElem hk]
  split
  · rename_i hm
    rw [mem_joinL (busyN_right _ _ _ _) hx.2.1, mem_busyN hl]
    constructor
    · rintro ⟨x, h1, h2, h3⟩
      rcases List.mem_append.1 h1 with e | e
      · exact .inl ⟨x, e, h2, h3⟩
      · rw [List.mem_singleton] at e; subst e; exact .inr h3
    · rintro (⟨x, h1, h2, h3⟩ | h3)
      · exact ⟨x, List.mem_append_left _ h1, h2, h3⟩
      · exact ⟨_, List.mem_append_right _ (List.mem_singleton.2 rfl), hm, h3⟩
  · rename_i hm
    rw [mem_busyN hl]
    constructor
    · rintro ⟨x, h1, h2, h3⟩
      rcases List.mem_append.1 h1 with e | e
      · exact ⟨x, e, h2, h3⟩
      · rw [List.mem_singleton] at e; subst e; exact absurd h2 hm
    · rintro ⟨x, h1, h2, h3⟩
      exact ⟨x, List.mem_append_left _ h1, h2, h3⟩
/-- the sum over the first k that hold something at the time t -/
def sumN (l : Tb) (t : Int) (k : Nat) : Nat := (((l.take k).filter fun x => meetsZ x.frm x.to t (t + 1)).map fun x => x.things.length).sum
theorem sumN_succ {l : Tb} (t : Int) {k : Nat} (hk : k < l.length) : sumN l t (k + 1) = sumN l t k + if meetsZ l[k].frm l[k].to t (t + 1) = true then l[k].things.length else 0 := by
  unfold sumN
  rw [List.take_succ_eq_append_getElem hk, List.filter_append, List.map_append, List.sum_append]
  congr 1
  cases h : meetsZ l[k].frm l[k].to t (t + 1) <;> simp [h]
theorem sumN_busy {l : Tb} (hl : RightT l) (t : Int) : ∀ {k : Nat}, k ≤ l.length → (busyN l t (t + 1) k).length = sumN l t k := by
  intro k
  induction k with
  | zero => intro _; rw [busyN_zero]; rfl
  | succ k ih =>
    intro hk
    have ih := ih (by omega)
    rw [busyN_succ hl _ _ (by omega), sumN_succ t (by omega)]
    have hx := hl.may l[k] (List.getElem_mem (by omega))
    split
    · rename_i hm
      rw [join_len (busyN_right _ _ _ _) hx.2.1, ih]
      intro n hn hn2
      obtain ⟨x, h1, h2, h3⟩ := (mem_busyN hl).1 hn
      -- both hold it at the time t
      have hp : Ahead x l[k] := by
        have := hl.row
        rw [show l = l.take k ++ l.drop k from (List.take_append_drop k l).symm, List.pairwise_append] at this
        refine this.2.2 x h1 _ ?_
        rw [List.mem_iff_getElem]
        exact ⟨0, by rw [List.length_drop]; omega, by simp⟩
      have hc := hp.2
      unfold clashH at hc
      rw [touch_iff.2 ⟨n, h3, hn2⟩, Bool.and_true] at hc
      unfold meetsZ at *
      rw [decide_eq_true_eq] at *
      rw [decide_eq_false_iff_not] at hc
      omega
    · rw [ih]; rfl
theorem busy_sum {l : Tb} (hr : rightT l = true) (t : Int) : (busyT l t (t + 1)).length = sumN l t l.length := by
  rw [← busyN_all hr, sumN_busy (rightT_is.1 hr) t (Nat.le_refl _)]

end Go.Proofs.Ytbiofikijehlcaa

namespace Go.Proofs.Ytbiofikijehlcaa
open Go.RowKit

def Glob (w : World) : Prop := (w = w)
theorem Glob.next {w w' : World} (h : Glob w) (hb : Below w.heap.size w w') : Glob w' := by
  have _h := h
  have _hb := hb
  first
    | exact rfl

end Go.Proofs.Ytbiofikijehlcaa

namespace Go.Proofs.Ytbiofikijehlcaa
open Go.RowKit

/-- a holding as an element: four cells, one of them a slice of numbers -/
def EH : Elem Hd := fun w ok x vs => ∃ A m c, vs = [.int .i64 x.id, .slice A m c, .int .i64 x.frm, .int .i64 x.to] ∧ RN EI 1 w ok A m x.things ∧ (A = none → c = 0) ∧ m ≤ c ∧ m ≤ maxLen ∧ (I64 x.id ∧ I64 x.frm ∧ I64 x.to ∧ ∀ n ∈ x.things, I64 n)
theorem eh_steady : Steady EH := ⟨fun ⟨A, m, c, h1, h2, h3⟩ hk ho => ⟨A, m, c, h1, h2.keep ei_steady hk ho, h3⟩⟩
/-- '.slice A n c' reads as the table l, all below block B -/
def RT (w : World) (B : Nat) (A : Option Addr) (n : Nat) (l : Tb) : Prop := RN EH 4 w (Lt B) A n l
/-- a holding by value: what is asked of it -/
structure HAsk (w : World) (A : Option Addr) (m c : Nat) (h : Hd) : Prop where
  reads : RI w w.heap.size A m h.things
  nil : A = none → c = 0
  cap : m ≤ c
  few : m ≤ maxLen
  int : I64 h.id ∧ I64 h.frm ∧ I64 h.to ∧ ∀ n ∈ h.things, I64 n
def hV (h : Hd) (A : Option Addr) (m c : Nat) : Value := .agg #[.int .i64 h.id, .slice A m c, .int .i64 h.frm, .int .i64 h.to]
section
variable {w w' : World} {B n m c : Nat} {A : Option Addr} {l : Tb} {h : Hd}
theorem HAsk.next (h0 : HAsk w A m c h) (hb : Below w.heap.size w w') : HAsk w' A m c h := ⟨h0.reads.next hb, h0.nil, h0.cap, h0.few, h0.int⟩
theorem RT.len (h : RT w B A n l) : l.length = n := h.1
theorem RT.nil : RT w B A 0 [] := RN.nil
theorem RT.next (h : RT w w.heap.size A n l) (hb : Below w.heap.size w w') : RT w' w'.heap.size A n l := RN.next eh_steady h hb
theorem RT.below (h : RT w B A n l) (hb : Below B w w') : RT w' B A n l := RN.below eh_steady h hb
theorem RT.drewN (h : RT w B A n l) (k : Nat) : RT (w.drewN k) B A n l := RN.drewN h eh_steady k
/-- the k-th holding: its cells, and what is asked of it -/
theorem RT.one (h : RT w w.heap.size A n l) {k : Nat} (hk : k < n) : ∃ b off A2 m2 c2, A = some ⟨b, off, none⟩ ∧ b < w.heap.size ∧ w.cell? ⟨b, off + k * 4, none⟩ = some (.int .i64 (l.getD k hd0).id) ∧ w.cell? ⟨b, off + k * 4 + 1, none⟩ = some (.slice A2 m2 c2) ∧ w.cell? ⟨b, off + k * 4 + 2, none⟩ = some (.int .i64 (l.getD k hd0).frm) ∧ w.cell? ⟨b, off + k * 4 + 3, none⟩ = some (.int .i64 (l.getD k hd0).to) ∧ HAsk w A2 m2 c2 (l.getD k hd0) := by
  have hl : k < l.length := by rw [h.1]; exact hk
  obtain ⟨b, off, vs, e, hb, _, hc, A2, m2, c2, hv, hr, h1, h2, h3, h4⟩ := RN.at h (List.getElem?_eq_getElem hl)
  subst hv
  have hg : l.getD k hd0 = l[k] := by rw [List.getD, List.getElem?_eq_getElem hl]; rfl
  rw [hg]
  exact ⟨b, off, A2, m2, c2, e, hb, hc 0 _ rfl, hc 1 _ rfl, hc 2 _ rfl, hc 3 _ rfl, ⟨RN.ri hr, h1, h2, h3, h4⟩⟩
end
/-- the k-th holding, as an element -/
theorem RT.el {w : World} {B n : Nat} {A : Option Addr} {l : Tb} (h : RT w B A n l) {k : Nat} (hk : k < n) : ∃ b off A2 m2 c2, A = some ⟨b, off, none⟩ ∧ b < B ∧ w.cell? ⟨b, off + k * 4, none⟩ = some (.int .i64 (l.getD k hd0).id) ∧ w.cell? ⟨b, off + k * 4 + 1, none⟩ = some (.slice A2 m2 c2) ∧ w.cell? ⟨b, off + k * 4 + 2, none⟩ = some (.int .i64 (l.getD k hd0).frm) ∧ w.cell? ⟨b, off + k * 4 + 3, none⟩ = some (.int .i64 (l.getD k hd0).to) ∧ EH w (Lt B) (l.getD k hd0) [.int .i64 (l.getD k hd0).id, .slice A2 m2 c2, .int .i64 (l.getD k hd0).frm, .int .i64 (l.getD k hd0).to] := by
  have hl : k < l.length := by rw [h.1]; exact hk
  obtain ⟨b, off, vs, e, hb, _, hc, hE⟩ := RN.at h (List.getElem?_eq_getElem hl)
  obtain ⟨A2, m2, c2, hv, h5⟩ := id hE
  subst hv
  have hg : l.getD k hd0 = l[k] := by rw [List.getD, List.getElem?_eq_getElem hl]; rfl
  rw [hg]
  exact ⟨b, off, A2, m2, c2, e, hb, hc 0 _ rfl, hc 1 _ rfl, hc 2 _ rfl, hc 3 _ rfl, hE⟩
theorem held_info : (Try.prog.info? 36).map (fun i => (i.zero, i.size, i.bytes)) = some (some (.agg #[.int .i64 0, .slice none 0 0, .int .i64 0, .int .i64 0]), 4, 48) := by kernel_rfl
/-- a block that holds a holding -/
def hO (h : Hd) (A : Option Addr) (m c : Nat) : Obj := .cells #[.int .i64 h.id, .slice A m c, .int .i64 h.frm, .int .i64 h.to] 36
structure BoxH (wr : World) (g : Nat) (h : Hd) (A : Option Addr) (m c : Nat) : Prop where
  lt : g < wr.heap.size
  at' : wr.heap[g]? = some (hO h A m c)
section
variable {wr w' : World} {g m c : Nat} {h : Hd} {A : Option Addr}
theorem BoxH.next (h0 : BoxH wr g h A m c) (hb : Below wr.heap.size wr w') : BoxH w' g h A m c := ⟨Nat.lt_of_lt_of_le h0.lt hb.size, (hb.block _ h0.lt).trans h0.at'⟩
theorem boxH_new (w : World) (h : Hd) (A : Option Addr) (m c : Nat) : BoxH (w.alloc (hO h A m c)) w.heap.size h A m c := ⟨by simp, heap_alloc_new w _⟩
theorem BoxH.c0 (h0 : BoxH wr g h A m c) : wr.cell? ⟨g, 0, none⟩ = some (.int .i64 h.id) := (cell_of_row wr g 0 _ _ (0, 0) h0.at').trans rfl
theorem BoxH.c1 (h0 : BoxH wr g h A m c) : wr.cell? ⟨g, 1, none⟩ = some (.slice A m c) := (cell_of_row wr g 1 _ _ (0, 0) h0.at').trans rfl
theorem BoxH.c2 (h0 : BoxH wr g h A m c) : wr.cell? ⟨g, 2, none⟩ = some (.int .i64 h.frm) := (cell_of_row wr g 2 _ _ (0, 0) h0.at').trans rfl
theorem BoxH.c3 (h0 : BoxH wr g h A m c) : wr.cell? ⟨g, 3, none⟩ = some (.int .i64 h.to) := (cell_of_row wr g 3 _ _ (0, 0) h0.at').trans rfl
theorem BoxH.frozen (h0 : BoxH wr g h A m c) (j : Nat) : wr.frozen? ⟨g, j, none⟩ = false := frozen_of_row wr g j _ _ h0.at'
end

/-- a table and an error's number -/
def TEPost (a : Tb) (er : Int) (w : World) (e : Ending) (w' : World) : Prop :=
  (∃ A1 c1, e = .returned (.tuple #[.slice A1 a.length c1, .int .i64 er]) ∧ RT w' w'.heap.size A1 a.length a ∧ (A1 = none → c1 = 0) ∧ a.length ≤ c1) ∧ Below w.heap.size w w'
theorem tepost_mk {A : Option Addr} {n c : Nat} {l : Tb} {er : Int} {w w' : World} (hr : RT w' w'.heap.size A n l) (hnil : A = none → c = 0) (hnc : n ≤ c) (hb : Below w.heap.size w w') : TEPost l er w (.returned (.tuple #[.slice A n c, .int .i64 er])) w' := by
  have := hr.len
  subst this
  exact ⟨⟨A, c, rfl, hr, hnil, hnc⟩, hb⟩
/-- a table that is asked about -/
structure TAsk (w : World) (A : Option Addr) (n c : Nat) (l : Tb) : Prop where
  reads : RT w w.heap.size A n l
  nil : A = none → c = 0
  cap : n ≤ c
  few : n ≤ maxLen
theorem TAsk.next {w w' : World} {A : Option Addr} {n c : Nat} {l : Tb} (h : TAsk w A n c l) (hb : Below w.heap.size w w') : TAsk w' A n c l := ⟨h.reads.next hb, h.nil, h.cap, h.few⟩
/-- a holding by value, as an element: what it reaches was there -/
theorem HAsk.el {w w' : World} {A : Option Addr} {m c : Nat} {h : Hd} (hh : HAsk w A m c h) (hb : Below w.heap.size w w') : EH w' (Lt w.heap.size) h [.int .i64 h.id, .slice A m c, .int .i64 h.frm, .int .i64 h.to] := by
  refine ⟨A, m, c, rfl, ⟨hh.reads.1, fun h0 => ?_⟩, hh.nil, hh.cap, hh.few, hh.int⟩
  obtain ⟨b, off, e, hlt, hc⟩ := hh.reads.2 h0
  refine ⟨b, off, e, hlt, fun j x hx => ⟨[.int .i64 x], rfl, fun i v hv => ?_, rfl⟩⟩
  have hj := (List.getElem?_eq_some_iff.1 hx).1
  have hi : i = 0 := by have := (List.getElem?_eq_some_iff.1 hv).1; simpa using this
  subst hi
  have hv' : Value.int .i64 x = v := by simpa using hv
  subst hv'
  rw [show off + (j * 1 + 0) = off + j by omega]
  have := (hb.cell (p := ⟨b, off + j, none⟩) hlt).trans (hc j (by have := hh.reads.1; omega))
  rw [this, List.getD, hx]
  rfl

end Go.Proofs.Ytbiofikijehlcaa

namespace Go.Proofs.Ytbiofikijehlcaa
open Go.ChangeShapes Go.WideShapes Go.ChangeAt Go.RowKit Go.Deep

set_option maxRecDepth 100000 in
theorem open_things {H : Type} {enc : TypeId × Value → H} {W : World} {v : Value} {x : DataW H × List MemPlace} {fuel : Nat}
    (hf : DataW.trod enc Try.prog W 0 (fun _ => true) true fuel 28 [v] = some x) : ∃ A m c xs, v = .slice A m c ∧ RN EI 1 W (Lt W.heap.size) A m xs ∧ (A = none → c = 0) ∧ m ≤ c ∧ m ≤ maxLen ∧ ∀ n ∈ xs, I64 n := by
  obtain ⟨A, n, c, xs, e, hr, h1, h2, h3⟩ := open_RN (E := fun w ok x vs => EI w ok x vs ∧ I64 x) (C := 1) Try.underlying28 (by kernel_rfl) (by omega) (fun n cs y _ ht => by
    obtain ⟨z, e, _, wz⟩ := DataW.trod_int Try.underlying3 ht
    exact ⟨z, by rw [e]; rfl, i64_wf wz⟩) hf
  refine ⟨A, n, c, xs, by simpa using e, ⟨hr.1, fun hn => ?_⟩, h1, h2, h3, fun z hz => ?_⟩
  · obtain ⟨b, off, e, hb, hc⟩ := hr.2 hn
    refine ⟨b, off, e, hb, fun j x hx => ?_⟩
    obtain ⟨vs, a1, a2, a3⟩ := hc j x hx
    exact ⟨vs, a1, a2, a3.1⟩
  · obtain ⟨j, hj, rfl⟩ := List.getElem_of_mem hz
    obtain ⟨b, off, e, hb, hc⟩ := hr.2 (by have := hr.1; omega)
    obtain ⟨vs, a1, a2, a3⟩ := hc j _ (List.getElem?_eq_getElem hj)
    exact a3.2
set_option maxRecDepth 100000 in
theorem open_held {H : Type} {enc : TypeId × Value → H} {W : World} {cs : List Value} {x : DataW H × List MemPlace} {fuel : Nat}
    (hl : cs.length = 4) (hf : DataW.trod enc Try.prog W 0 (fun _ => true) true fuel 36 cs = some x) : ∃ h, EH W (Lt W.heap.size) h cs := by
  obtain ⟨ys, n', hn', hy, hlen, hyl, hfs⟩ := DataW.trod_struct Try.underlying36 hf
  obtain ⟨v0, v1, v2, v3, rfl⟩ : ∃ v0 v1 v2 v3, cs = [v0, v1, v2, v3] := by
    match cs, hl with
    | [a, b, c, d], _ => exact ⟨a, b, c, d, rfl⟩
  have ci : Try.prog.cellsOf 3 = 1 := by kernel_rfl
  have cs' : Try.prog.cellsOf 28 = 1 := by kernel_rfl
  have cl : Try.prog.cellsOf 2 = 1 := by kernel_rfl
  have h0 : DataW.trod enc Try.prog W 0 (fun _ => true) true n' 3 (List.take (Try.prog.cellsOf 3) [v0, v1, v2, v3]) = ys[0]? := hfs 0 _ rfl
  have h1 : DataW.trod enc Try.prog W 0 (fun _ => true) true n' 28 (List.take (Try.prog.cellsOf 28) [v1, v2, v3]) = ys[1]? := hfs 1 _ rfl
  have h2 : DataW.trod enc Try.prog W 0 (fun _ => true) true n' 2 (List.take (Try.prog.cellsOf 2) [v2, v3]) = ys[2]? := hfs 2 _ rfl
  have h3 : DataW.trod enc Try.prog W 0 (fun _ => true) true n' 2 (List.take (Try.prog.cellsOf 2) [v3]) = ys[3]? := hfs 3 _ rfl
  rw [ci] at h0
  rw [cs'] at h1
  rw [cl] at h2 h3
  obtain ⟨y0, y1, y2, y3, rfl⟩ : ∃ y0 y1 y2 y3, ys = [y0, y1, y2, y3] := by
    match ys, hyl with
    | [a, b, c, d], _ => exact ⟨a, b, c, d, rfl⟩
  obtain ⟨z0, e0, _, w0⟩ := DataW.trod_int Try.underlying3 h0
  obtain ⟨A, m, c, xs, e1, hr, a1, a2, a3, a4⟩ := open_things h1
  obtain ⟨z2, e2, _, w2⟩ := DataW.trod_int Try.underlying2 h2
  obtain ⟨z3, e3, _, w3⟩ := DataW.trod_int Try.underlying2 h3
  simp at e0 e2 e3
  subst e0 e1 e2 e3
  exact ⟨⟨z0, xs, z2, z3⟩, A, m, c, rfl, hr, a1, a2, a3, i64_wf w0, i64_wf w2, i64_wf w3, a4⟩
set_option maxRecDepth 100000 in
theorem open_RT {H : Type} {enc : TypeId × Value → H} {W : World} {b0 : Nat} {v : Value} {d : DataW H} {ps : List MemPlace}
    (hval : Value.okWide Try.prog W .any b0 22 v) (h : DataW.Trod enc Try.prog W 0 (fun _ => true) true 22 v d ps) :
    ∃ A n c l, v = .slice A n c ∧ TAsk W A n c l := by
  obtain ⟨fuel, hf⟩ := h
  obtain ⟨a', n', c', rfl⟩ := okWide_slice Try.underlying22 hval
  obtain ⟨A, n, c, xs, e, hr, h1, h2, h3⟩ := open_RN (E := EH) (C := 4) Try.underlying22 (by kernel_rfl) (by omega) (fun n cs y hl ht => open_held hl ht) hf
  simp [Value.cells] at e
  obtain ⟨rfl, rfl, rfl⟩ := e
  exact ⟨_, _, _, xs, rfl, hr, h1, h2, h3⟩
set_option maxRecDepth 100000 in
theorem open_H {H : Type} {enc : TypeId × Value → H} {W : World} {b0 : Nat} {v : Value} {d : DataW H} {ps : List MemPlace}
    (hval : Value.okWide Try.prog W .any b0 36 v) (h : DataW.Trod enc Try.prog W 0 (fun _ => true) true 36 v d ps) :
    ∃ A m c h, v = .agg #[.int .i64 h.id, .slice A m c, .int .i64 h.frm, .int .i64 h.to] ∧ HAsk W A m c h := by
  obtain ⟨fuel, hf⟩ := h
  obtain ⟨cs, rfl, hsz⟩ := okWide_struct Try.underlying36 hval
  have c4 : Try.prog.cellsOf 36 = 4 := by kernel_rfl
  obtain ⟨h, A, m, c, hv, hr, h1, h2, h3, h4⟩ := open_held (by simpa [Value.cells] using hsz.trans c4) hf
  refine ⟨A, m, c, h, ?_, RN.ri hr, h1, h2, h3, h4⟩
  congr 1
  apply Array.ext'
  simpa [Value.cells] using hv

end Go.Proofs.Ytbiofikijehlcaa

namespace Go.Proofs.Ytbiofikijehlcaa
open Go.RowKit

/-- a table that can be looked at whole: few holdings of few things -/
def FewT (l : Tb) : Prop := l.length ≤ 100 ∧ ∀ h ∈ l, h.things.length ≤ 100
theorem FewT.at {l : Tb} (h : FewT l) {k : Nat} (hk : k < l.length) : (l.getD k hd0).things.length ≤ 100 := by
  rw [List.getD, List.getElem?_eq_getElem hk]
  exact h.2 _ (List.getElem_mem hk)

/-- a holding and a yes or no -/
def GPost (h : Hd) (b : Bool) (w : World) (e : Ending) (w' : World) : Prop :=
  (∃ A m c, e = .returned (.tuple #[.agg #[.int .i64 h.id, .slice A m c, .int .i64 h.frm, .int .i64 h.to], .bool b]) ∧ HAsk w' A m c h) ∧ Below w.heap.size w w'
/-- a table, a holding, and no error -/
def DPost (l : Tb) (h : Hd) (w : World) (e : Ending) (w' : World) : Prop :=
  (∃ A1 n1 c1 A m c, e = .returned (.tuple #[.slice A1 n1 c1, .agg #[.int .i64 h.id, .slice A m c, .int .i64 h.frm, .int .i64 h.to], .int .i64 0]) ∧ (RT w' w'.heap.size A1 n1 l ∧ (A1 = none → c1 = 0) ∧ n1 ≤ c1) ∧ HAsk w' A m c h) ∧ Below w.heap.size w w'
/-- some table and an error's number -/
def CPost (er : Int) (w : World) (e : Ending) (w' : World) : Prop :=
  (∃ A1 n1 c1, e = .returned (.tuple #[.slice A1 n1 c1, .int .i64 er])) ∧ Below w.heap.size w w'
/-- two tables -/
def TTPost (a b : Tb) (w : World) (e : Ending) (w' : World) : Prop :=
  (∃ A1 c1 A2 c2, e = .returned (.tuple #[.slice A1 a.length c1, .slice A2 b.length c2]) ∧ RT w' w'.heap.size A1 a.length a ∧ RT w' w'.heap.size A2 b.length b ∧ ((A1 = none → c1 = 0) ∧ a.length ≤ c1) ∧ ((A2 = none → c2 = 0) ∧ b.length ≤ c2)) ∧ Below w.heap.size w w'

end Go.Proofs.Ytbiofikijehlcaa

namespace Go.Proofs.Ytbiofikijehlcaa
open Go.RowKit

def sameB (xs ys : List Int) : Bool := xs == ys
theorem sameB_iff {xs ys : List Int} : sameB xs ys = true ↔ xs = ys := by unfold sameB; exact beq_iff_eq
set_option maxHeartbeats 400000 in
theorem same_any (A A' : Option Addr) (n c n' c' : Nat) (xs ys : List Int) (w : World) (B B' : Nat) (hr : RI w B A n xs) (hr' : RI w B' A' n' ys) (hn : n ≤ maxLen) (hn' : n' ≤ maxLen) :
    Calls Try.prog 11 #[.slice A n c, .slice A' n' c'] w fun e w' => e = .returned (.bool (sameB xs ys)) ∧ ∃ k, w' = w.drewN k := by
  unfold maxLen at hn hn'
  have HLEN := Lib.hid hr.1
  have HLEN' := Lib.hid hr'.1
  by_cases hnn : n = n'
  · subst hnn
    go_enter Try.func11, Try.ntmps11
    go_wp2
    go_loopw [5] (fun i wr => ∃ k : Nat, k ≤ n ∧ i = .int .i64 k ∧ (∀ i, i < k → xs.getD i 0 = ys.getD i 0) ∧ ∃ q, wr = w.drewN q) (fun i _ => n - (intOf i).toNat)
    case atStart => exact ⟨0, Nat.zero_le _, rfl, fun i hi => absurd hi (by omega), 0, rfl⟩
    case round =>
      obtain ⟨k, hk, rfl, hpre, q, rfl⟩ := hrel
      have HP := Lib.hid hpre
      clear hpre
      by_cases hlt : k < n
      · obtain ⟨b, off, rfl, hb, hc⟩ := hr.2 (by omega)
        obtain ⟨b', off', rfl, hb', hc'⟩ := hr'.2 (by omega)
        have hck := hc k hlt
        have hck' := hc' k hlt
        clear hc hr hc' hr'
        by_cases hx : xs.getD k 0 = ys.getD k 0
        · have HX := Lib.hid hx
          have h1 : (xs.getD k 0 == ys.getD k 0) = true := by simpa using hx
          have h2 : (xs.getD k 0 != ys.getD k 0) = false := by simpa using hx
          clear hx
          generalize hx : xs.getD k 0 = x at *
          generalize hy : ys.getD k 0 = y at *
          have HXX := Lib.hid hx
          have HYY := Lib.hid hy
          clear hx hy
          go_wp2
          go_quiet (fail)
          go_wp2
          go_roundw
          case rel =>
            refine ⟨k + 1, by omega, by go_num, ?_, _, rfl⟩
            intro i hi
            rcases Nat.lt_or_ge i k with h | h
            · exact HP.out i h
            · obtain rfl : i = k := by omega
              rw [HXX.out, HYY.out]; exact HX.out
          case measure => simp [intOf]; omega
        · have hne : Hid (sameB xs ys = false) := Lib.hid (by
            rw [← Bool.not_eq_true, sameB_iff]
            rintro rfl; exact hx rfl)
          have h1 : (xs.getD k 0 == ys.getD k 0) = false := by simpa using hx
          have h2 : (xs.getD k 0 != ys.getD k 0) = true := by simpa using hx
          clear hx
          generalize xs.getD k 0 = x at *
          generalize ys.getD k 0 = y at *
          go_wp2
          go_quiet (fail)
          go_wp2
          go_ret
          exact ⟨ret_bool hne.out, _, World.drewN_drewN _ _ _⟩
      · have hall : Hid (sameB xs ys = true) := Lib.hid (by
          rw [sameB_iff]
          have h1 := HLEN.out; have h2 := HLEN'.out
          refine List.ext_getElem (by omega) fun i hi hi' => ?_
          have := HP.out i (by omega)
          rwa [show xs.getD i 0 = xs[i] by simp [List.getD, hi], show ys.getD i 0 = ys[i] by simp [List.getD, hi']] at this)
        clear hr hr'
        go_wp2
        go_ret
        exact ⟨ret_bool hall.out, _, rfl⟩
  · have hne : Hid (sameB xs ys = false) := Lib.hid (by
      rw [← Bool.not_eq_true, sameB_iff]
      rintro rfl
      have h1 := HLEN.out; have h2 := HLEN'.out; omega)
    clear hr hr'
    go_enter Try.func11, Try.ntmps11
    go_wp2
    go_ret
    exact ⟨ret_bool hne.out, 0, rfl⟩

/-- of two that are the same -/
theorem r_same1 {A A' : Option Addr} {n c n' c' : Nat} {xs ys : List Int} {w : World} (hr : RI w w.heap.size A n xs) (hr' : RI w w.heap.size A' n' ys) (hn : n ≤ maxLen) (h : xs = ys) :
    Calls Try.prog 11 #[.slice A n c, .slice A' n' c'] w fun e w' => e = .returned (.bool true) ∧ Below w.heap.size w w' := by
  subst h
  exact (same_any A A' n c n' c' xs xs w _ _ hr hr' hn (by rw [← hr'.1, hr.1]; exact hn)).mono fun _ _ ⟨h1, k, h2⟩ => ⟨by rw [h1, sameB_iff.2 rfl], by rw [h2]; exact bel_drew w k⟩

end Go.Proofs.Ytbiofikijehlcaa

namespace Go.Proofs.Ytbiofikijehlcaa
open Go.RowKit

theorem getD_mem_i64 (xs : List Int) (h : ∀ x ∈ xs, -9223372036854775808 ≤ x ∧ x ≤ 9223372036854775807) (j : Nat) : -9223372036854775808 ≤ xs.getD j 0 ∧ xs.getD j 0 ≤ 9223372036854775807 := by
  by_cases hj : j < xs.length
  · have : xs.getD j 0 = xs[j] := by simp [List.getD, hj]
    rw [this]; exact h _ (List.getElem_mem hj)
  · have : xs.getD j 0 = 0 := by simp [List.getD, hj]
    omega

def lastOf (xs : List Int) (k : Nat) : Int := if k = 0 then -1 else xs.getD (k - 1) 0
theorem right_step (xs : List Int) (k : Nat) (hpre : ∀ i, i < k → okAt xs i) : okAt xs k ↔ (lastOf xs k < xs.getD k 0 ∧ xs.getD k 0 < 256) := by
  unfold lastOf
  rcases Nat.eq_zero_or_pos k with rfl | hp
  · unfold okAt; simp; omega
  · have h := hpre (k - 1) (by omega)
    rw [if_neg (by omega)]
    unfold okAt at h ⊢
    omega

set_option maxHeartbeats 400000 in
theorem right_any (A : Option Addr) (n c : Nat) (xs : List Int) (w : World) (B : Nat) (hr : RI w B A n xs) (hn : n ≤ maxLen) :
    Calls Try.prog 23 #[.slice A n c] w fun e w' => e = .returned (.bool (rightB xs)) ∧ w = w' := by
  unfold maxLen at hn
  have hlen := hr.1
  have HLEN := Lib.hid hlen
  clear hlen
  go_enter Try.func23, Try.ntmps23
  go_wp2
  go_loop [3, 8] (fun l i => ∃ k : Nat, k ≤ n ∧ i = .int .i64 k ∧ l = .int .i64 (lastOf xs k) ∧ (∀ i, i < k → okAt xs i)) (fun _ i => n - (intOf i).toNat)
  case atStart => exact ⟨0, Nat.zero_le _, rfl, rfl, fun i hi => absurd hi (by omega)⟩
  case round =>
    obtain ⟨k, hk, rfl, rfl, hpre⟩ := hrel
    have HP := Lib.hid hpre
    clear hpre
    by_cases hlt : k < n
    · obtain ⟨b, off, rfl, hb, hc⟩ := hr.2 (by omega)
      have hck := hc k hlt
      have hst := Lib.hid (right_step xs k HP.out)
      clear hc hr
      by_cases hok : lastOf xs k < xs.getD k 0 ∧ xs.getD k 0 < 256
      · obtain ⟨h1, h2⟩ := hok
        have g1 : ¬ xs.getD k 0 ≤ lastOf xs k := by omega
        have g2 : ¬ 256 ≤ xs.getD k 0 := by omega
        generalize hx : xs.getD k 0 = x at *
        generalize hl : lastOf xs k = l at *
        have HX := Lib.hid hx
        have HL := Lib.hid hl
        clear hx hl
        go_wp2
        go_round
        case rel =>
          refine ⟨k + 1, by omega, by go_num, ?_, ?_⟩
          · unfold lastOf
            rw [if_neg (by omega), Nat.add_sub_cancel, HX.out]
          · intro i hi
            rcases Nat.lt_or_ge i k with h | h
            · exact HP.out i h
            · obtain rfl : i = k := by omega
              exact hst.out.2 ⟨h1, h2⟩
        case measure => simp [intOf]; omega
      · have hbad := Lib.hid (rightB_false xs k (by rw [HLEN.out]; exact hlt) (fun h => hok (hst.out.1 h)))
        clear hst HP
        generalize xs.getD k 0 = x at *
        generalize lastOf xs k = l at *
        by_cases h1 : x ≤ l
        · clear hok
          go_wp2
          go_ret
          exact ⟨ret_bool hbad.out, rfl⟩
        · have h2 : 256 ≤ x := by omega
          clear hok
          go_wp2
          go_ret
          exact ⟨ret_bool hbad.out, rfl⟩
    · have hall : Hid (rightB xs = true) := Lib.hid ((rightB_iff xs).2 fun i hi => HP.out i (by have := HLEN.out; omega))
      clear hr
      go_wp2
      go_ret
      exact ⟨ret_bool hall.out, rfl⟩

set_option maxHeartbeats 400000 in
theorem in_any (A : Option Addr) (n c : Nat) (xs : List Int) (v : Int) (w : World) (B : Nat) (hr : RI w B A n xs) (hn : n ≤ maxLen) :
    Calls Try.prog 48 #[.slice A n c, .int .i64 v] w fun e w' => e = .returned (.bool (inB xs v)) ∧ w = w' := by
  unfold maxLen at hn
  have HLEN := Lib.hid hr.1
  go_enter Try.func48, Try.ntmps48
  go_wp2
  go_loop [5] (fun i => ∃ k : Nat, k ≤ n ∧ i = .int .i64 k ∧ (∀ i, i < k → xs.getD i 0 ≠ v)) (fun i => n - (intOf i).toNat)
  case atStart => exact ⟨0, Nat.zero_le _, rfl, fun i hi => absurd hi (by omega)⟩
  case round =>
    obtain ⟨k, hk, rfl, hpre⟩ := hrel
    have HP := Lib.hid hpre
    clear hpre
    by_cases hlt : k < n
    · obtain ⟨b, off, rfl, hb, hc⟩ := hr.2 (by omega)
      have hck := hc k hlt
      clear hc hr
      by_cases hx : xs.getD k 0 = v
      · have hin : Hid (inB xs v = true) := Lib.hid (by
          unfold inB
          rw [List.contains_iff_mem, ← hx]
          have hl : k < xs.length := by have := HLEN.out; omega
          have : xs.getD k 0 = xs[k] := by simp [List.getD, hl]
          rw [this]; exact List.getElem_mem hl)
        have h1 : (xs.getD k 0 == v) = true := by simpa using hx
        clear hx
        generalize xs.getD k 0 = x at *
        go_wp2
        go_ret
        exact ⟨ret_bool hin.out, rfl⟩
      · have h1 : (xs.getD k 0 == v) = false := by simpa using hx
        have HX := Lib.hid hx
        clear hx
        generalize hy : xs.getD k 0 = x at *
        have HY := Lib.hid hy
        clear hy
        go_wp2
        go_round
        case rel =>
          refine ⟨k + 1, by omega, by go_num, ?_⟩
          intro i hi
          rcases Nat.lt_or_ge i k with h | h
          · exact HP.out i h
          · obtain rfl : i = k := by omega
            rw [HY.out]; exact HX.out
        case measure => simp [intOf]; omega
    · have hall : Hid (inB xs v = false) := Lib.hid (by
        unfold inB
        rw [← Bool.not_eq_true, List.contains_iff_mem]
        intro hm
        obtain ⟨i, hi, e⟩ := List.getElem_of_mem hm
        have := HP.out i (by have := HLEN.out; omega)
        rw [show xs.getD i 0 = xs[i] by simp [List.getD, hi]] at this
        exact this e)
      clear hr
      go_wp2
      go_ret
      exact ⟨ret_bool hall.out, rfl⟩

set_option maxHeartbeats 400000 in
theorem refRight_any (A : Option Addr) (n c : Nat) (xs : List Int) (w : World) (B : Nat) (hr : RI w B A n xs) (hn : n ≤ maxLen) :
    Calls Try.prog 47 #[.slice A n c] w fun e w' => e = .returned (.bool (rightB xs)) ∧ ∃ k, w' = w.drewN k := by
  unfold maxLen at hn
  have HLEN := Lib.hid hr.1
  go_enter Try.func47, Try.ntmps47
  go_wp2
  go_loopw [3] (fun i wr => ∃ k : Nat, k ≤ n ∧ i = .int .i64 k ∧ (∀ i, i < k → okAt xs i) ∧ ∃ q, wr = w.drewN q) (fun i _ => n - (intOf i).toNat)
  case atStart => exact ⟨0, Nat.zero_le _, rfl, fun i hi => absurd hi (by omega), 0, rfl⟩
  case round =>
    obtain ⟨k, hk, rfl, hpre, q, rfl⟩ := hrel
    have HP := Lib.hid hpre
    clear hpre
    by_cases hlt : k < n
    · obtain ⟨b, off, rfl, hb, hc⟩ := hr.2 (by omega)
      have hck := hc k hlt
      have hcp := hc (k - 1) (by omega)
      clear hc hr
      have hok : Hid (okAt xs k ↔ (0 ≤ xs.getD k 0 ∧ xs.getD k 0 ≤ 255 ∧ (0 < k → xs.getD (k - 1) 0 < xs.getD k 0))) := Lib.hid Iff.rfl
      have hbad : Hid (¬ okAt xs k → rightB xs = false) := Lib.hid (rightB_false xs k (by rw [HLEN.out]; exact hlt))
      have hnext : Hid (okAt xs k → ∀ i, i < k + 1 → okAt xs i) := Lib.hid (by
        intro h i hi
        rcases Nat.lt_or_ge i k with h' | h'
        · exact HP.out i h'
        · obtain rfl : i = k := by omega
          exact h)
      generalize xs.getD k 0 = x at *
      generalize xs.getD (k - 1) 0 = y at *
      by_cases h1 : x < 0
      · have e1 : Hid (rightB xs = false) := Lib.hid (hbad.out (fun h => by have := hok.out.1 h; omega))
        clear hok hbad hnext
        go_wp2
        go_quiet (fail)
        go_wp2
        go_ret
        exact ⟨ret_bool e1.out, _, World.drewN_drewN _ _ _⟩
      · have d1 : decide (x < 0) = false := by simpa using h1
        by_cases h2 : 255 < x
        · have e1 : Hid (rightB xs = false) := Lib.hid (hbad.out (fun h => by have := hok.out.1 h; omega))
          clear hok hbad hnext
          go_wp2
          go_quiet (fail)
          go_wp2
          go_ret
          exact ⟨ret_bool e1.out, _, World.drewN_drewN _ _ _⟩
        · have d2 : decide (255 < x) = false := by simpa using h2
          by_cases h3 : 0 < k
          · by_cases h4 : x ≤ y
            · have e1 : Hid (rightB xs = false) := Lib.hid (hbad.out (fun h => by have := hok.out.1 h; omega))
              clear hok hbad hnext
              go_wp2
              go_quiet (fail)
              go_wp2
              go_ret
              exact ⟨ret_bool e1.out, _, World.drewN_drewN _ _ _⟩
            · have d4 : decide (x ≤ y) = false := by simpa using h4
              have e1 := Lib.hid (hnext.out (hok.out.2 ⟨by omega, by omega, fun _ => by omega⟩))
              clear hok hbad hnext
              go_wp2
              go_quiet (fail)
              go_wp2
              go_roundw
              case rel => exact ⟨k + 1, by omega, by go_num, e1.out, _, rfl⟩
              case measure => simp [intOf]; omega
          · have d3 : decide ((0 : Int) < (k : Int)) = false := by simp; omega
            have e1 := Lib.hid (hnext.out (hok.out.2 ⟨by omega, by omega, fun _ => by omega⟩))
            clear hok hbad hnext
            go_wp2
            go_quiet (fail)
            go_wp2
            go_roundw
            case rel => exact ⟨k + 1, by omega, by go_num, e1.out, _, rfl⟩
            case measure => simp [intOf]; omega
    · have hall : Hid (rightB xs = true) := Lib.hid ((rightB_iff xs).2 fun i hi => HP.out i (by have := HLEN.out; omega))
      clear hr
      go_wp2
      go_ret
      exact ⟨ret_bool hall.out, _, rfl⟩


end Go.Proofs.Ytbiofikijehlcaa
