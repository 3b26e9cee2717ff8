/- What a table of holdings is, and what is added, dropped, got, cut short, busy, over, in plain words. No program's text is walked here. The reference's Same of two lists of numbers (bailiwickref01). What the small readers of a slice of int answer: set.Right, the reference's Right, in and Same; the slices read as lists of numbers. Plain facts on sets kept as bits of four words; no condition. What the words of a set answer: join, meet, less and empty, on four words each; every word below 2^64. -/
import Derived.Test.YtbiofikijehlcaaDoorMg01
import Derived.LoopTactic
import Derived.Deep.QuietTactic
import Derived.BigQuiet
import Derived.Lib.TrailingZeros
import Derived.RegionTactic
import Derived.ChangeAlike
import Derived.Handy
import Derived.Laws.BitsAllLaws
namespace Go.Proofs.YtbiofikijehlcaaDoor

/-- a holding: its number, which things, from when till when -/
structure Hd where
  id : Int
  things : List Int
  frm : Int
  to : Int
def hd0 : Hd := ⟨0, [], 0, 0⟩
abbrev Tb := List Hd
/-- do two spans meet -/
def meetsZ (a b c d : Int) : Bool := decide (a < b ∧ c < d ∧ a < d ∧ c < b)
/-- have two sets a number in common -/
def touchB (a b : List Int) : Bool := a.any fun n => b.contains n
def clashH (a b : Hd) : Bool := meetsZ a.frm a.to b.frm b.to && touchB a.things b.things
def MayH (h : Hd) : Prop := 0 < h.things.length ∧ rightB h.things = true ∧ 0 ≤ h.frm ∧ h.frm < h.to ∧ h.to ≤ 4611686018427387904
instance (h : Hd) : Decidable (MayH h) := by unfold MayH; infer_instance
def mayH (h : Hd) : Bool := decide (MayH h)
def Ahead (a b : Hd) : Prop := a.id < b.id ∧ clashH a b = false
instance (a b : Hd) : Decidable (Ahead a b) := by unfold Ahead; infer_instance
structure RightT (l : Tb) : Prop where
  few : l.length ≤ 256
  may : ∀ h ∈ l, MayH h
  row : l.Pairwise Ahead
def rightT (l : Tb) : Bool := decide (l.length ≤ 256) && (l.all mayH && decide (l.Pairwise Ahead))
theorem rightT_is {l : Tb} : rightT l = true ↔ RightT l := by
  unfold rightT mayH
  rw [Bool.and_eq_true, Bool.and_eq_true, decide_eq_true_eq, decide_eq_true_eq, List.all_eq_true]
  constructor
  · rintro ⟨h1, h2, h3⟩
    exact ⟨h1, fun h hh => of_decide_eq_true (h2 h hh), h3⟩
  · rintro ⟨h1, h2, h3⟩
    exact ⟨h1, fun h hh => decide_eq_true (h2 h hh), h3⟩
/-- the table with h, by rising numbers -/
def insT (l : Tb) (h : Hd) : Tb := l.filter (fun x => decide (x.id < h.id)) ++ h :: l.filter (fun x => decide (h.id < x.id))
def hasT (l : Tb) (id : Int) : Bool := l.any fun x => x.id == id
def getT (l : Tb) (id : Int) : Hd := ((if rightT l = true then l else []).find? fun x => x.id == id).getD hd0
def gotT (l : Tb) (id : Int) : Bool := rightT l && hasT l id
def addE (l : Tb) (h : Hd) : Int := if (rightT l && mayH h) = false then 1 else if hasT l h.id = true then 7 else if 256 ≤ l.length ∨ (l.any fun x => clashH x h) = true then 5 else 0
def addT (l : Tb) (h : Hd) : Tb := if addE l h = 0 then insT l h else l
def dropE (l : Tb) (id : Int) : Int := if rightT l = false then 1 else if hasT l id = false then 6 else 0
def dropT (l : Tb) (id : Int) : Tb := if dropE l id = 0 then l.filter (fun x => x.id != id) else l
def cutE (l : Tb) (id to : Int) : Int := if rightT l = false then 1 else if hasT l id = false then 6 else if to ≤ (getT l id).frm ∨ (getT l id).to < to then 1 else 0
def cutT (l : Tb) (id to : Int) : Tb := if cutE l id to = 0 then l.map (fun x => if x.id = id then { x with to := to } else x) else l
/-- what is busy in a span -/
def busyP (l : Tb) (a b : Int) (n : Int) : Bool := l.any fun x => meetsZ x.frm x.to a b && x.things.contains n
def busyT (l : Tb) (a b : Int) : List Int := if rightT l = true then pickL (busyP l a b) else []
def restT (l : Tb) (now : Int) : Tb := if rightT l = true then l.filter (fun x => decide (now < x.to)) else l
def goneT (l : Tb) (now : Int) : Tb := if rightT l = true then l.filter (fun x => decide (x.to ≤ now)) else []
/-- a number more in a rising list -/
def insZ (x : Int) : List Int → List Int
  | [] => [x]
  | y :: r => if x < y then x :: y :: r else if x = y then y :: r else y :: insZ x r
def endsT (l : Tb) (frm : Int) : List Int := if rightT l = true then ((l.map Hd.to).filter fun t => decide (frm < t)).foldr insZ [] else []

/-! two rows by rising numbers with the same holdings are one -/
theorem table_ext : ∀ {a b : Tb}, a.Pairwise (fun x y => x.id < y.id) → b.Pairwise (fun x y => x.id < y.id) → (∀ x, x ∈ a ↔ x ∈ b) → a = b
  | [], [], _, _, _ => rfl
  | [], y :: b, _, _, h => by have := (h y).2 (List.mem_cons_self ..); cases this
  | x :: a, [], _, _, h => by have := (h x).1 (List.mem_cons_self ..); cases this
  | x :: a, y :: b, ha, hb, h => by
    rw [List.pairwise_cons] at ha hb
    have hxy : x = y := by
      rcases List.mem_cons.1 ((h x).1 (List.mem_cons_self ..)) with e | e
      · exact e
      · rcases List.mem_cons.1 ((h y).2 (List.mem_cons_self ..)) with e' | e'
        · exact e'.symm
        · have h1 := hb.1 x e
          have h2 := ha.1 y e'
          omega
    subst hxy
    congr 1
    refine table_ext ha.2 hb.2 fun z => ?_
    constructor
    · intro hz
      rcases List.mem_cons.1 ((h z).1 (List.mem_cons_of_mem _ hz)) with e | e
      · subst e; have := ha.1 z hz; omega
      · exact e
    · intro hz
      rcases List.mem_cons.1 ((h z).2 (List.mem_cons_of_mem _ hz)) with e | e
      · subst e; have := hb.1 z hz; omega
      · exact e

section
variable {l : Tb} {h a b x : Hd} {id : Int}
theorem RightT.ids (hl : RightT l) : l.Pairwise (fun x y => x.id < y.id) := hl.row.imp fun h => h.1
theorem RightT.sub {m : Tb} (hl : RightT l) (h : m.Sublist l) : RightT m := ⟨Nat.le_trans h.length_le hl.few, fun x hx => hl.may x (h.subset hx), hl.row.sublist h⟩
theorem RightT.filter (hl : RightT l) (p : Hd → Bool) : RightT (l.filter p) := hl.sub List.filter_sublist
/-- of one number there is one holding -/
theorem RightT.one (hl : RightT l) (ha : a ∈ l) (hb : b ∈ l) (h : a.id = b.id) : a = b := by
  have := hl.ids
  induction l with
  | nil => cases ha
  | cons y r ih =>
    rw [List.pairwise_cons] at this
    rcases List.mem_cons.1 ha with e1 | e1
    · rcases List.mem_cons.1 hb with e2 | e2
      · rw [e1, e2]
      · have := this.1 b e2; rw [← e1] at this; omega
    · rcases List.mem_cons.1 hb with e2 | e2
      · have := this.1 a e1; rw [← e2] at this; omega
      · exact ih (hl.sub (List.sublist_cons_self ..)) e1 e2 this.2
theorem meets_comm (a b c d : Int) : meetsZ a b c d = meetsZ c d a b := decide_eq_decide.2 (by omega)
theorem touch_iff {a b : List Int} : touchB a b = true ↔ ∃ n, n ∈ a ∧ n ∈ b := by
  unfold touchB
  rw [List.any_eq_true]
  constructor
  · rintro ⟨n, h1, h2⟩; exact ⟨n, h1, List.contains_iff_mem.1 h2⟩
  · rintro ⟨n, h1, h2⟩; exact ⟨n, h1, List.contains_iff_mem.2 h2⟩
theorem touch_comm (a b : List Int) : touchB a b = touchB b a := by
  rw [Bool.eq_iff_iff, touch_iff, touch_iff]
  exact ⟨fun ⟨n, h1, h2⟩ => ⟨n, h2, h1⟩, fun ⟨n, h1, h2⟩ => ⟨n, h2, h1⟩⟩
theorem clash_comm (a b : Hd) : clashH a b = clashH b a := by unfold clashH; rw [meets_comm, touch_comm]
theorem has_iff_id : hasT l id = true ↔ ∃ x ∈ l, x.id = id := by
  unfold hasT
  rw [List.any_eq_true]
  exact ⟨fun ⟨x, h1, h2⟩ => ⟨x, h1, by simpa using h2⟩, fun ⟨x, h1, h2⟩ => ⟨x, h1, by simpa using h2⟩⟩
theorem has_no : hasT l id = false ↔ ∀ x ∈ l, x.id ≠ id := by
  constructor
  · intro h x hx e
    rw [has_iff_id.2 ⟨x, hx, e⟩] at h; cases h
  · intro h
    refine Bool.eq_false_iff.2 fun h' => ?_
    obtain ⟨x, hx, e⟩ := has_iff_id.1 h'
    exact h x hx e
theorem get_is (hr : rightT l = true) (hx : x ∈ l) : getT l x.id = x := by
  have hl := rightT_is.1 hr
  unfold getT
  rw [if_pos hr]
  cases hf : l.find? (fun y => y.id == x.id) with
  | none => exact absurd (List.find?_eq_none.1 hf x hx) (by simp)
  | some y =>
    have h1 := List.find?_some hf
    have h2 := List.mem_of_find?_eq_some hf
    show y = x
    exact hl.one h2 hx (by simpa using h1)
theorem get_mem (h : gotT l id = true) : getT l id ∈ l ∧ (getT l id).id = id := by
  unfold gotT at h
  rw [Bool.and_eq_true] at h
  obtain ⟨x, hx, e⟩ := has_iff_id.1 h.2
  subst e
  rw [get_is h.1 hx]
  exact ⟨hx, rfl⟩
theorem get_none (h : gotT l id = false) : getT l id = hd0 := by
  unfold getT
  split
  · rename_i hr
    unfold gotT at h
    rw [hr, Bool.true_and] at h
    rw [List.find?_eq_none.2 (fun x hx => by simpa using has_no.1 h x hx)]
    rfl
  · rfl

/-! Adding -/
structure MayAdd (l : Tb) (h : Hd) : Prop where
  right : RightT l
  may : MayH h
  new : ∀ x ∈ l, x.id ≠ h.id
  room : l.length < 256
  free : ∀ x ∈ l, clashH x h = false
theorem add_ok : addE l h = 0 ↔ MayAdd l h := by
  unfold addE
  constructor
  · intro he
    split at he
    · omega
    · rename_i h1
      split at he
      · omega
      · rename_i h2
        split at he
        · omega
        · rename_i h3
          rw [Bool.not_eq_false, Bool.and_eq_true] at h1
          rw [Bool.not_eq_true] at h2
          rw [not_or, Bool.not_eq_true] at h3
          refine ⟨rightT_is.1 h1.1, of_decide_eq_true h1.2, has_no.1 h2, by omega, fun x hx => ?_⟩
          have := List.any_eq_false.1 h3.2 x hx
          simpa using this
  · intro hm
    rw [if_neg (by rw [rightT_is.2 hm.right, show mayH h = true from decide_eq_true hm.may]; simp), if_neg (by rw [has_no.2 hm.new]; simp), if_neg]
    rw [not_or, Bool.not_eq_true, List.any_eq_false]
    exact ⟨by have := hm.room; omega, fun x hx => by rw [hm.free x hx]; simp⟩
theorem mem_ins : x ∈ insT l h ↔ (x ∈ l ∧ x.id ≠ h.id) ∨ x = h := by
  unfold insT
  rw [List.mem_append, List.mem_cons, List.mem_filter, List.mem_filter, decide_eq_true_eq, decide_eq_true_eq]
  constructor
  · rintro (⟨h1, h2⟩ | h1 | ⟨h1, h2⟩)
    · exact .inl ⟨h1, by omega⟩
    · exact .inr h1
    · exact .inl ⟨h1, by omega⟩
  · rintro (⟨h1, h2⟩ | h1)
    · by_cases h3 : x.id < h.id
      · exact .inl ⟨h1, h3⟩
      · exact .inr (.inr ⟨h1, by omega⟩)
    · exact .inr (.inl h1)
theorem MayAdd.mem (hm : MayAdd l h) : x ∈ insT l h ↔ x ∈ l ∨ x = h := by
  rw [mem_ins]
  constructor
  · rintro (⟨h1, _⟩ | h1)
    · exact .inl h1
    · exact .inr h1
  · rintro (h1 | h1)
    · exact .inl ⟨h1, hm.new x h1⟩
    · exact .inr h1
theorem ins_len (hn : ∀ x ∈ l, x.id ≠ h.id) : (insT l h).length = l.length + 1 := by
  unfold insT
  rw [List.length_append, List.length_cons]
  have : ∀ l : Tb, (∀ x ∈ l, x.id ≠ h.id) → (l.filter fun x => decide (x.id < h.id)).length + (l.filter fun x => decide (h.id < x.id)).length = l.length := by
    intro l hl
    induction l with
    | nil => rfl
    | cons y r ih =>
      have ih := ih (fun x hx => hl x (List.mem_cons_of_mem _ hx))
      have hy := hl y (List.mem_cons_self ..)
      rw [List.filter_cons, List.filter_cons]
      by_cases h1 : y.id < h.id
      · rw [if_pos (by simpa using h1), if_neg (by simp; omega)]; simp; omega
      · rw [if_neg (by simpa using h1), if_pos (by simp; omega)]; simp; omega
  have := this l hn
  omega
theorem MayAdd.ids (hm : MayAdd l h) : (insT l h).Pairwise Ahead := by
  unfold insT
  rw [List.pairwise_append, List.pairwise_cons]
  refine ⟨(hm.right.filter _).row, ⟨fun x hx => ?_, (hm.right.filter _).row⟩, fun x hx y hy => ?_⟩
  · rw [List.mem_filter, decide_eq_true_eq] at hx
    exact ⟨hx.2, by rw [clash_comm]; exact hm.free x hx.1⟩
  · rw [List.mem_filter, decide_eq_true_eq] at hx
    rcases List.mem_cons.1 hy with e | e
    · subst e; exact ⟨hx.2, hm.free x hx.1⟩
    · rw [List.mem_filter, decide_eq_true_eq] at e
      have hlt : x.id < y.id := by omega
      -- both stand in the table
      have key : ∀ l : Tb, l.Pairwise Ahead → x ∈ l → y ∈ l → Ahead x y := by
        intro l
        induction l with
        | nil => intro _ h1; cases h1
        | cons z r ih =>
          intro hp h1 h2
          rw [List.pairwise_cons] at hp
          rcases List.mem_cons.1 h1 with e1 | e1
          · rcases List.mem_cons.1 h2 with e2 | e2
            · rw [e1, e2] at hlt; omega
            · rw [e1]; exact hp.1 y e2
          · rcases List.mem_cons.1 h2 with e2 | e2
            · have := (hp.1 x e1).1; rw [← e2] at this; omega
            · exact ih hp.2 e1 e2
      exact key l hm.right.row hx.1 e.1
theorem MayAdd.right' (hm : MayAdd l h) : RightT (insT l h) :=
  ⟨by rw [ins_len hm.new]; exact hm.room, fun x hx => by
    rcases hm.mem.1 hx with e | e
    · exact hm.right.may x e
    · subst e; exact hm.may, hm.ids⟩
/-- what was added and dropped leaves all as it was -/
theorem MayAdd.drop (hm : MayAdd l h) : (insT l h).filter (fun x => x.id != h.id) = l := by
  refine table_ext (hm.right'.filter _).ids hm.right.ids fun x => ?_
  rw [List.mem_filter, hm.mem]
  constructor
  · rintro ⟨h1 | h1, h2⟩
    · exact h1
    · subst h1; simp at h2
  · intro hx
    exact ⟨.inl hx, by simpa using hm.new x hx⟩
/-- in whatever order two are added -/
theorem MayAdd.swap (ha : MayAdd l a) (hb : MayAdd l b) (hab : MayAdd (insT l a) b) (hba : MayAdd (insT l b) a) : insT (insT l a) b = insT (insT l b) a := by
  refine table_ext hab.right'.ids hba.right'.ids fun x => ?_
  rw [hab.mem, hba.mem, ha.mem, hb.mem]
  constructor
  · rintro ((h | h) | h)
    · exact .inl (.inl h)
    · exact .inr h
    · exact .inl (.inr h)
  · rintro ((h | h) | h)
    · exact .inl (.inl h)
    · exact .inr h
    · exact .inl (.inr h)
theorem add_two (ha : MayAdd l a) : MayAdd (insT l a) b ↔ MayAdd l b ∧ MayAdd (insT l b) a := by
  constructor
  · intro h
    have hb : MayAdd l b := ⟨ha.right, h.may, fun x hx => h.new x (ha.mem.2 (.inl hx)), ha.room, fun x hx => h.free x (ha.mem.2 (.inl hx))⟩
    refine ⟨hb, hb.right', ha.may, fun x hx => ?_, ?_, fun x hx => ?_⟩
    · rcases hb.mem.1 hx with e | e
      · exact ha.new x e
      · subst e; exact fun e2 => h.new a (ha.mem.2 (.inr rfl)) e2.symm
    · have := h.room; rw [ins_len ha.new] at this; rw [ins_len hb.new]; exact this
    · rcases hb.mem.1 hx with e | e
      · exact ha.free x e
      · subst e; rw [clash_comm]; exact h.free a (ha.mem.2 (.inr rfl))
  · rintro ⟨hb, hba⟩
    refine ⟨ha.right', hb.may, fun x hx => ?_, ?_, fun x hx => ?_⟩
    · rcases ha.mem.1 hx with e | e
      · exact hb.new x e
      · subst e; exact fun e2 => hba.new b (hb.mem.2 (.inr rfl)) e2.symm
    · have := hba.room; rw [ins_len hb.new] at this; rw [ins_len ha.new]; exact this
    · rcases ha.mem.1 hx with e | e
      · exact hb.free x e
      · subst e; rw [clash_comm]; exact hba.free b (hb.mem.2 (.inr rfl))
theorem getT_add (hm : MayAdd l h) : getT (insT l h) h.id = h := get_is (rightT_is.2 hm.right') (hm.mem.2 (.inr rfl))
theorem getT_old (hm : MayAdd l h) (hx : x ∈ l) : getT (insT l h) x.id = x := get_is (rightT_is.2 hm.right') (hm.mem.2 (.inl hx))

/-! Cutting short -/
theorem meets_less {a b b' c d : Int} (h : b' ≤ b) (hm : meetsZ a b' c d = true) : meetsZ a b c d = true := by
  unfold meetsZ at *
  rw [decide_eq_true_eq] at *
  omega
theorem meets_less' {a b c d d' : Int} (h : d' ≤ d) (hm : meetsZ a b c d' = true) : meetsZ a b c d = true := by
  rw [meets_comm] at hm ⊢; exact meets_less h hm
def shortH (id to : Int) (x : Hd) : Hd := if x.id = id then { x with to := to } else x
theorem short_id (id to : Int) (x : Hd) : (shortH id to x).id = x.id := by unfold shortH; split <;> rfl
theorem short_things (id to : Int) (x : Hd) : (shortH id to x).things = x.things := by unfold shortH; split <;> rfl
theorem short_frm (id to : Int) (x : Hd) : (shortH id to x).frm = x.frm := by unfold shortH; split <;> rfl
theorem cut_right {to : Int} (hl : RightT l) (hx : x ∈ l) (h1 : x.frm < to) (h2 : to ≤ x.to) : RightT (l.map (shortH x.id to)) := by
  have hto : ∀ y ∈ l, (shortH x.id to y).to ≤ y.to ∧ y.frm < (shortH x.id to y).to := by
    intro y hy
    unfold shortH
    split
    · rename_i e
      have := hl.one hy hx e
      subst this
      exact ⟨h2, h1⟩
    · exact ⟨Int.le_refl _, (hl.may y hy).2.2.2.1⟩
  refine ⟨by rw [List.length_map]; exact hl.few, fun y hy => ?_, ?_⟩
  · obtain ⟨z, hz, rfl⟩ := List.mem_map.1 hy
    have := hl.may z hz
    have ht := hto z hz
    unfold MayH at *
    rw [short_things, short_frm]
    exact ⟨this.1, this.2.1, this.2.2.1, ht.2, by omega⟩
  · rw [List.pairwise_map]
    have key : ∀ m : Tb, (∀ y ∈ m, y ∈ l) → m.Pairwise Ahead → m.Pairwise (fun a b => Ahead (shortH x.id to a) (shortH x.id to b)) := by
      intro m
      induction m with
      | nil => intro _ _; exact List.Pairwise.nil
      | cons y r ih =>
        intro hm hp
        rw [List.pairwise_cons] at hp ⊢
        refine ⟨fun z hz => ?_, ih (fun z hz => hm z (List.mem_cons_of_mem _ hz)) hp.2⟩
        have h0 := hp.1 z hz
        have hy := hto y (hm y (List.mem_cons_self ..))
        have hz' := hto z (hm z (List.mem_cons_of_mem _ hz))
        refine ⟨by rw [short_id, short_id]; exact h0.1, ?_⟩
        refine Bool.eq_false_iff.2 fun hc => ?_
        have hc0 := h0.2
        unfold clashH at hc hc0
        rw [Bool.and_eq_true, short_things, short_things, short_frm, short_frm] at hc
        rw [meets_less hy.1 (meets_less' hz'.1 hc.1), hc.2] at hc0
        cases hc0
    exact key l (fun _ h => h) hl.row

/-! What is busy, and what is over -/
theorem busy_right (a b : Int) : rightB (busyT l a b) = true := by
  unfold busyT
  split
  · exact right_pickL _
  · rfl
theorem mem_busy (hr : rightT l = true) {a b n : Int} : n ∈ busyT l a b ↔ ∃ x ∈ l, meetsZ x.frm x.to a b = true ∧ n ∈ x.things := by
  unfold busyT busyP
  rw [if_pos hr, mem_pickL]
  constructor
  · rintro ⟨_, _, h⟩
    obtain ⟨x, hx, h⟩ := List.any_eq_true.1 h
    rw [Bool.and_eq_true, List.contains_iff_mem] at h
    exact ⟨x, hx, h⟩
  · rintro ⟨x, hx, h1, h2⟩
    have := right_mem ((rightT_is.1 hr).may x hx).2.1 n h2
    exact ⟨this.1, this.2, List.any_eq_true.2 ⟨x, hx, by rw [h1, List.contains_iff_mem.2 h2]; rfl⟩⟩
theorem rest_rest {a b : Int} (h : a ≤ b) : restT (restT l a) b = restT l b := by
  unfold restT
  by_cases hr : rightT l = true
  · rw [if_pos hr, if_pos hr, if_pos (rightT_is.2 ((rightT_is.1 hr).filter _)), List.filter_filter]
    congr 1
    funext x
    rw [Bool.eq_iff_iff, Bool.and_eq_true, decide_eq_true_eq, decide_eq_true_eq]
    omega
  · rw [if_neg hr, if_neg hr]
theorem busy_part {a b c : Int} (h : b ≤ c) : partB (busyT l a b) (busyT l a c) = true := by
  unfold partB
  rw [busy_right, busy_right, Bool.true_and, Bool.true_and, List.all_eq_true]
  intro n hn
  rw [List.contains_iff_mem]
  by_cases hr : rightT l = true
  · rw [mem_busy hr] at hn ⊢
    obtain ⟨x, hx, h1, h2⟩ := hn
    exact ⟨x, hx, meets_less' h h1, h2⟩
  · unfold busyT at hn; rw [if_neg hr] at hn; cases hn
theorem busy_join {a b c : Int} (h1 : a < b) (h2 : b < c) : joinL (busyT l a b) (busyT l b c) = busyT l a c := by
  refine right_ext (right_joinL _ _) (busy_right _ _) fun n => ?_
  rw [mem_joinL (busy_right _ _) (busy_right _ _)]
  by_cases hr : rightT l = true
  · rw [mem_busy hr, mem_busy hr, mem_busy hr]
    constructor
    · rintro (⟨x, hx, hm, hn⟩ | ⟨x, hx, hm, hn⟩)
      · exact ⟨x, hx, meets_less' (by omega) hm, hn⟩
      · refine ⟨x, hx, ?_, hn⟩
        unfold meetsZ at *
        rw [decide_eq_true_eq] at *
        omega
    · rintro ⟨x, hx, hm, hn⟩
      by_cases hb : meetsZ x.frm x.to a b = true
      · exact .inl ⟨x, hx, hb, hn⟩
      · refine .inr ⟨x, hx, ?_, hn⟩
        unfold meetsZ at *
        rw [decide_eq_true_eq] at *
        omega
  · unfold busyT
    rw [if_neg hr, if_neg hr, if_neg hr]
    simp
/-- what is busy in a span is what can't be added for it -/
theorem busy_apart (hr : rightT l = true) (hh : MayH h) : (∀ x ∈ l, clashH x h = false) ↔ apartB (busyT l h.frm h.to) h.things = true := by
  unfold apartB
  rw [busy_right, hh.2.1, Bool.true_and, Bool.true_and, List.all_eq_true]
  constructor
  · intro hc n hn
    rw [Bool.not_eq_true', ← Bool.not_eq_true, List.contains_iff_mem]
    intro hm
    obtain ⟨x, hx, h1, h2⟩ := (mem_busy hr).1 hn
    have := hc x hx
    unfold clashH at this
    rw [h1, touch_iff.2 ⟨n, h2, hm⟩] at this
    cases this
  · intro ha x hx
    refine Bool.eq_false_iff.2 fun hc => ?_
    unfold clashH at hc
    rw [Bool.and_eq_true] at hc
    obtain ⟨n, h1, h2⟩ := touch_iff.1 hc.2
    have := ha n ((mem_busy hr).2 ⟨x, hx, hc.1, h1⟩)
    rw [List.contains_iff_mem.2 h2] at this
    cases this
end

/-! How much is busy at a time -/
theorem right_nodup : ∀ {l : List Int}, rightB l = true → l.Nodup
  | [], _ => List.nodup_nil
  | x :: r, h => by
    rw [List.nodup_cons]
    refine ⟨fun hm => ?_, right_nodup (right_tail h)⟩
    have := right_below h x hm
    omega
theorem join_len {a b : List Int} (ha : rightB a = true) (hb : rightB b = true) (h : ∀ n ∈ a, n ∉ b) : (joinL a b).length = a.length + b.length := by
  rw [← List.length_append]
  refine List.Perm.length_eq ((List.perm_ext_iff_of_nodup (right_nodup (right_joinL a b)) ?_).2 fun n => ?_)
  · rw [List.nodup_append]
    refine ⟨right_nodup ha, right_nodup hb, fun x hx y hy e => ?_⟩
    subst e
    exact h x hx hy
  · rw [mem_joinL ha hb, List.mem_append]
/-- of the first k holdings: what is busy -/
def busyN (l : Tb) (a b : Int) (k : Nat) : List Int := pickL (busyP (l.take k) a b)
theorem busyN_zero (l : Tb) (a b : Int) : busyN l a b 0 = [] := by
  refine right_ext (right_pickL _) (by rfl) fun n => ?_
  unfold busyN
  rw [mem_pickL]
  constructor
  · rintro ⟨_, _, h⟩
    simp [busyP] at h
  · intro h; cases h
theorem busyN_all {l : Tb} (hr : rightT l = true) (a b : Int) : busyN l a b l.length = busyT l a b := by
  unfold busyN busyT
  rw [if_pos hr, List.take_length]
theorem busyN_right (l : Tb) (a b : Int) (k : Nat) : rightB (busyN l a b k) = true := right_pickL _
theorem mem_busyN {l : Tb} (hl : RightT l) {a b n : Int} {k : Nat} : n ∈ busyN l a b k ↔ ∃ x ∈ l.take k, meetsZ x.frm x.to a b = true ∧ n ∈ x.things := by
  unfold busyN busyP
  rw [mem_pickL]
  constructor
  · rintro ⟨_, _, h⟩
    obtain ⟨x, hx, h⟩ := List.any_eq_true.1 h
    rw [Bool.and_eq_true, List.contains_iff_mem] at h
    exact ⟨x, hx, h⟩
  · rintro ⟨x, hx, h1, h2⟩
    have := right_mem (hl.may x (List.mem_of_mem_take hx)).2.1 n h2
    exact ⟨this.1, this.2, List.any_eq_true.2 ⟨x, hx, by rw [h1, List.contains_iff_mem.2 h2]; rfl⟩⟩
theorem busyN_succ {l : Tb} (hl : RightT l) (a b : Int) {k : Nat} (hk : k < l.length) :
    busyN l a b (k + 1) = if meetsZ l[k].frm l[k].to a b = true then joinL (busyN l a b k) l[k].things else busyN l a b k := by
  have hx := hl.may l[k] (List.getElem_mem hk)
  refine right_ext (busyN_right _ _ _ _) (by split; exact right_joinL _ _; exact busyN_right _ _ _ _) fun n => ?_
  rw [mem_busyN hl, List.take_succ_eq_append_getElem hk]
  split
  · rename_i hm
    rw [mem_joinL (busyN_right _ _ _ _) hx.2.1, mem_busyN hl]
    constructor
    · rintro ⟨x, h1, h2, h3⟩
      rcases List.mem_append.1 h1 with e | e
      · exact .inl ⟨x, e, h2, h3⟩
      · rw [List.mem_singleton] at e; subst e; exact .inr h3
    · rintro (⟨x, h1, h2, h3⟩ | h3)
      · exact ⟨x, List.mem_append_left _ h1, h2, h3⟩
      · exact ⟨_, List.mem_append_right _ (List.mem_singleton.2 rfl), hm, h3⟩
  · rename_i hm
    rw [mem_busyN hl]
    constructor
    · rintro ⟨x, h1, h2, h3⟩
      rcases List.mem_append.1 h1 with e | e
      · exact ⟨x, e, h2, h3⟩
      · rw [List.mem_singleton] at e; subst e; exact absurd h2 hm
    · rintro ⟨x, h1, h2, h3⟩
      exact ⟨x, List.mem_append_left _ h1, h2, h3⟩
/-- the sum over the first k that hold something at the time t -/
def sumN (l : Tb) (t : Int) (k : Nat) : Nat := (((l.take k).filter fun x => meetsZ x.frm x.to t (t + 1)).map fun x => x.things.length).sum
theorem sumN_succ {l : Tb} (t : Int) {k : Nat} (hk : k < l.length) : sumN l t (k + 1) = sumN l t k + if meetsZ l[k].frm l[k].to t (t + 1) = true then l[k].things.length else 0 := by
  unfold sumN
  rw [List.take_succ_eq_append_getElem hk, List.filter_append, List.map_append, List.sum_append]
  congr 1
  cases h : meetsZ l[k].frm l[k].to t (t + 1) <;> simp [h]
theorem sumN_busy {l : Tb} (hl : RightT l) (t : Int) : ∀ {k : Nat}, k ≤ l.length → (busyN l t (t + 1) k).length = sumN l t k := by
  intro k
  induction k with
  | zero => intro _; rw [busyN_zero]; rfl
  | succ k ih =>
    intro hk
    have ih := ih (by omega)
    rw [busyN_succ hl _ _ (by omega), sumN_succ t (by omega)]
    have hx := hl.may l[k] (List.getElem_mem (by omega))
    split
    · rename_i hm
      rw [join_len (busyN_right _ _ _ _) hx.2.1, ih]
      intro n hn hn2
      obtain ⟨x, h1, h2, h3⟩ := (mem_busyN hl).1 hn
      -- both hold it at the time t
      have hp : Ahead x l[k] := by
        have := hl.row
        rw [show l = l.take k ++ l.drop k from (List.take_append_drop k l).symm, List.pairwise_append] at this
        refine this.2.2 x h1 _ ?_
        rw [List.mem_iff_getElem]
        exact ⟨0, by rw [List.length_drop]; omega, by simp⟩
      have hc := hp.2
      unfold clashH at hc
      rw [touch_iff.2 ⟨n, h3, hn2⟩, Bool.and_true] at hc
      unfold meetsZ at *
      rw [decide_eq_true_eq] at *
      rw [decide_eq_false_iff_not] at hc
      omega
    · rw [ih]; rfl
theorem busy_sum {l : Tb} (hr : rightT l = true) (t : Int) : (busyT l t (t + 1)).length = sumN l t l.length := by
  rw [← busyN_all hr, sumN_busy (rightT_is.1 hr) t (Nat.le_refl _)]

end Go.Proofs.YtbiofikijehlcaaDoor

namespace Go.Proofs.YtbiofikijehlcaaDoor
open Go.RowKit

def sameB (xs ys : List Int) : Bool := xs == ys
theorem sameB_iff {xs ys : List Int} : sameB xs ys = true ↔ xs = ys := by unfold sameB; exact beq_iff_eq
set_option maxHeartbeats 400000 in
theorem same_any (A A' : Option Addr) (n c n' c' : Nat) (xs ys : List Int) (w : World) (B B' : Nat) (hr : RI w B A n xs) (hr' : RI w B' A' n' ys) (hn : n ≤ maxLen) (hn' : n' ≤ maxLen) :
    Calls Tryd.prog 10 #[.slice A n c, .slice A' n' c'] w fun e w' => e = .returned (.bool (sameB xs ys)) ∧ ∃ k, w' = w.drewN k := by
  unfold maxLen at hn hn'
  have HLEN := Lib.hid hr.1
  have HLEN' := Lib.hid hr'.1
  by_cases hnn : n = n'
  · subst hnn
    go_enter Tryd.func10, Tryd.ntmps10
    go_wp2
    go_loopw [5] (fun i wr => ∃ k : Nat, k ≤ n ∧ i = .int .i64 k ∧ (∀ i, i < k → xs.getD i 0 = ys.getD i 0) ∧ ∃ q, wr = w.drewN q) (fun i _ => n - (intOf i).toNat)
    case atStart => exact ⟨0, Nat.zero_le _, rfl, fun i hi => absurd hi (by omega), 0, rfl⟩
    case round =>
      obtain ⟨k, hk, rfl, hpre, q, rfl⟩ := hrel
      have HP := Lib.hid hpre
      clear hpre
      by_cases hlt : k < n
      · obtain ⟨b, off, rfl, hb, hc⟩ := hr.2 (by omega)
        obtain ⟨b', off', rfl, hb', hc'⟩ := hr'.2 (by omega)
        have hck := hc k hlt
        have hck' := hc' k hlt
        clear hc hr hc' hr'
        by_cases hx : xs.getD k 0 = ys.getD k 0
        · have HX := Lib.hid hx
          have h1 : (xs.getD k 0 == ys.getD k 0) = true := by simpa using hx
          have h2 : (xs.getD k 0 != ys.getD k 0) = false := by simpa using hx
          clear hx
          generalize hx : xs.getD k 0 = x at *
          generalize hy : ys.getD k 0 = y at *
          have HXX := Lib.hid hx
          have HYY := Lib.hid hy
          clear hx hy
          go_wp2
          go_quiet (fail)
          go_wp2
          go_roundw
          case rel =>
            refine ⟨k + 1, by omega, by go_num, ?_, _, rfl⟩
            intro i hi
            rcases Nat.lt_or_ge i k with h | h
            · exact HP.out i h
            · obtain rfl : i = k := by omega
              rw [HXX.out, HYY.out]; exact HX.out
          case measure => simp [intOf]; omega
        · have hne : Hid (sameB xs ys = false) := Lib.hid (by
            rw [← Bool.not_eq_true, sameB_iff]
            rintro rfl; exact hx rfl)
          have h1 : (xs.getD k 0 == ys.getD k 0) = false := by simpa using hx
          have h2 : (xs.getD k 0 != ys.getD k 0) = true := by simpa using hx
          clear hx
          generalize xs.getD k 0 = x at *
          generalize ys.getD k 0 = y at *
          go_wp2
          go_quiet (fail)
          go_wp2
          go_ret
          exact ⟨ret_bool hne.out, _, World.drewN_drewN _ _ _⟩
      · have hall : Hid (sameB xs ys = true) := Lib.hid (by
          rw [sameB_iff]
          have h1 := HLEN.out; have h2 := HLEN'.out
          refine List.ext_getElem (by omega) fun i hi hi' => ?_
          have := HP.out i (by omega)
          rwa [show xs.getD i 0 = xs[i] by simp [List.getD, hi], show ys.getD i 0 = ys[i] by simp [List.getD, hi']] at this)
        clear hr hr'
        go_wp2
        go_ret
        exact ⟨ret_bool hall.out, _, rfl⟩
  · have hne : Hid (sameB xs ys = false) := Lib.hid (by
      rw [← Bool.not_eq_true, sameB_iff]
      rintro rfl
      have h1 := HLEN.out; have h2 := HLEN'.out; omega)
    clear hr hr'
    go_enter Tryd.func10, Tryd.ntmps10
    go_wp2
    go_ret
    exact ⟨ret_bool hne.out, 0, rfl⟩

/-- of two that are the same -/
theorem r_same1 {A A' : Option Addr} {n c n' c' : Nat} {xs ys : List Int} {w : World} (hr : RI w w.heap.size A n xs) (hr' : RI w w.heap.size A' n' ys) (hn : n ≤ maxLen) (h : xs = ys) :
    Calls Tryd.prog 10 #[.slice A n c, .slice A' n' c'] w fun e w' => e = .returned (.bool true) ∧ Below w.heap.size w w' := by
  subst h
  exact (same_any A A' n c n' c' xs xs w _ _ hr hr' hn (by rw [← hr'.1, hr.1]; exact hn)).mono fun _ _ ⟨h1, k, h2⟩ => ⟨by rw [h1, sameB_iff.2 rfl], by rw [h2]; exact bel_drew w k⟩

end Go.Proofs.YtbiofikijehlcaaDoor

namespace Go.Proofs.YtbiofikijehlcaaDoor
open Go.RowKit

theorem getD_mem_i64 (xs : List Int) (h : ∀ x ∈ xs, -9223372036854775808 ≤ x ∧ x ≤ 9223372036854775807) (j : Nat) : -9223372036854775808 ≤ xs.getD j 0 ∧ xs.getD j 0 ≤ 9223372036854775807 := by
  by_cases hj : j < xs.length
  · have : xs.getD j 0 = xs[j] := by simp [List.getD, hj]
    rw [this]; exact h _ (List.getElem_mem hj)
  · have : xs.getD j 0 = 0 := by simp [List.getD, hj]
    omega

def lastOf (xs : List Int) (k : Nat) : Int := if k = 0 then -1 else xs.getD (k - 1) 0
theorem right_step (xs : List Int) (k : Nat) (hpre : ∀ i, i < k → okAt xs i) : okAt xs k ↔ (lastOf xs k < xs.getD k 0 ∧ xs.getD k 0 < 256) := by
  unfold lastOf
  rcases Nat.eq_zero_or_pos k with rfl | hp
  · unfold okAt; simp; omega
  · have h := hpre (k - 1) (by omega)
    rw [if_neg (by omega)]
    unfold okAt at h ⊢
    omega

set_option maxHeartbeats 400000 in
theorem right_any (A : Option Addr) (n c : Nat) (xs : List Int) (w : World) (B : Nat) (hr : RI w B A n xs) (hn : n ≤ maxLen) :
    Calls Tryd.prog 36 #[.slice A n c] w fun e w' => e = .returned (.bool (rightB xs)) ∧ w = w' := by
  unfold maxLen at hn
  have hlen := hr.1
  have HLEN := Lib.hid hlen
  clear hlen
  go_enter Tryd.func36, Tryd.ntmps36
  go_wp2
  go_loop [3, 8] (fun l i => ∃ k : Nat, k ≤ n ∧ i = .int .i64 k ∧ l = .int .i64 (lastOf xs k) ∧ (∀ i, i < k → okAt xs i)) (fun _ i => n - (intOf i).toNat)
  case atStart => exact ⟨0, Nat.zero_le _, rfl, rfl, fun i hi => absurd hi (by omega)⟩
  case round =>
    obtain ⟨k, hk, rfl, rfl, hpre⟩ := hrel
    have HP := Lib.hid hpre
    clear hpre
    by_cases hlt : k < n
    · obtain ⟨b, off, rfl, hb, hc⟩ := hr.2 (by omega)
      have hck := hc k hlt
      have hst := Lib.hid (right_step xs k HP.out)
      clear hc hr
      by_cases hok : lastOf xs k < xs.getD k 0 ∧ xs.getD k 0 < 256
      · obtain ⟨h1, h2⟩ := hok
        have g1 : ¬ xs.getD k 0 ≤ lastOf xs k := by omega
        have g2 : ¬ 256 ≤ xs.getD k 0 := by omega
        generalize hx : xs.getD k 0 = x at *
        generalize hl : lastOf xs k = l at *
        have HX := Lib.hid hx
        have HL := Lib.hid hl
        clear hx hl
        go_wp2
        go_round
        case rel =>
          refine ⟨k + 1, by omega, by go_num, ?_, ?_⟩
          · unfold lastOf
            rw [if_neg (by omega), Nat.add_sub_cancel, HX.out]
          · intro i hi
            rcases Nat.lt_or_ge i k with h | h
            · exact HP.out i h
            · obtain rfl : i = k := by omega
              exact hst.out.2 ⟨h1, h2⟩
        case measure => simp [intOf]; omega
      · have hbad := Lib.hid (rightB_false xs k (by rw [HLEN.out]; exact hlt) (fun h => hok (hst.out.1 h)))
        clear hst HP
        generalize xs.getD k 0 = x at *
        generalize lastOf xs k = l at *
        by_cases h1 : x ≤ l
        · clear hok
          go_wp2
          go_ret
          exact ⟨ret_bool hbad.out, rfl⟩
        · have h2 : 256 ≤ x := by omega
          clear hok
          go_wp2
          go_ret
          exact ⟨ret_bool hbad.out, rfl⟩
    · have hall : Hid (rightB xs = true) := Lib.hid ((rightB_iff xs).2 fun i hi => HP.out i (by have := HLEN.out; omega))
      clear hr
      go_wp2
      go_ret
      exact ⟨ret_bool hall.out, rfl⟩




end Go.Proofs.YtbiofikijehlcaaDoor

namespace Go.Proofs.YtbiofikijehlcaaDoor

/-- the number whose bit b, of the first k ones, is q b -/
def bitsTo (q : Nat → Bool) : Nat → Nat
  | 0 => 0
  | k + 1 => bitsTo q k ||| (if q k then 2 ^ k else 0)
theorem testBit_bitsTo (q : Nat → Bool) (j : Nat) : ∀ k, (bitsTo q k).testBit j = (decide (j < k) && q j)
  | 0 => by simp [bitsTo]
  | k + 1 => by
    have ih := testBit_bitsTo q j k
    unfold bitsTo
    rw [Nat.testBit_or, ih]
    by_cases hj : j = k
    · subst hj
      by_cases h : q j = true <;> simp [h]
    · have e : (if q k then 2 ^ k else 0 : Nat).testBit j = false := by
        split
        · rw [Nat.testBit_two_pow]; simp; omega
        · simp
      rw [e, Bool.or_false]
      have : decide (j < k + 1) = decide (j < k) := by
        rw [decide_eq_decide]; omega
      rw [this]
theorem bitsTo_lt (q : Nat → Bool) : ∀ k, bitsTo q k < 2 ^ k
  | 0 => by simp [bitsTo]
  | k + 1 => by
    have ih := bitsTo_lt q k
    unfold bitsTo
    refine Nat.or_lt_two_pow (by have : 2 ^ k < 2 ^ (k + 1) := Nat.pow_lt_pow_right (by omega) (by omega); omega) ?_
    split
    · exact Nat.pow_lt_pow_right (by omega) (by omega)
    · exact Nat.two_pow_pos _
theorem bitsTo_congr {q r : Nat → Bool} {k : Nat} (h : ∀ j, j < k → q j = r j) : bitsTo q k = bitsTo r k := by
  refine Nat.eq_of_testBit_eq fun j => ?_
  rw [testBit_bitsTo, testBit_bitsTo]
  by_cases hj : j < k
  · rw [h j hj]
  · simp [hj]
theorem bitsTo_or (q r : Nat → Bool) (k : Nat) : bitsTo q k ||| bitsTo r k = bitsTo (fun j => q j || r j) k := by
  refine Nat.eq_of_testBit_eq fun j => ?_
  rw [Nat.testBit_or, testBit_bitsTo, testBit_bitsTo, testBit_bitsTo]
  cases decide (j < k) <;> simp
theorem bitsTo_and (q r : Nat → Bool) (k : Nat) : bitsTo q k &&& bitsTo r k = bitsTo (fun j => q j && r j) k := by
  refine Nat.eq_of_testBit_eq fun j => ?_
  rw [Nat.testBit_and, testBit_bitsTo, testBit_bitsTo, testBit_bitsTo]
  cases decide (j < k) <;> simp
theorem testBit_compl {k b : Nat} (hb : b < 2 ^ k) (j : Nat) : (2 ^ k - 1 - b).testBit j = (decide (j < k) && !b.testBit j) := by
  rw [Nat.sub_sub, Nat.add_comm 1 b]
  exact Nat.testBit_two_pow_sub_succ hb j
theorem bitsTo_andNot (q r : Nat → Bool) (k : Nat) : bitsTo q k &&& (2 ^ k - 1 - bitsTo r k) = bitsTo (fun j => q j && !r j) k := by
  refine Nat.eq_of_testBit_eq fun j => ?_
  rw [Nat.testBit_and, testBit_compl (bitsTo_lt r k), testBit_bitsTo, testBit_bitsTo, testBit_bitsTo]
  cases decide (j < k) <;> simp
theorem bitsTo_zero {q : Nat → Bool} {k : Nat} : bitsTo q k = 0 ↔ ∀ j, j < k → q j = false := by
  constructor
  · intro h j hj
    have := testBit_bitsTo q j k
    rw [h] at this
    simpa [hj] using this.symm
  · intro h
    refine Nat.eq_of_testBit_eq fun j => ?_
    rw [testBit_bitsTo]
    by_cases hj : j < k
    · simp [h j hj]
    · simp [hj]

/-- word i of the set of those that p says yes to -/
def wordOf (p : Int → Bool) (i : Nat) : Nat := bitsTo (fun b => p ((64 * i + b : Nat) : Int)) 64
theorem wordOf_lt (p : Int → Bool) (i : Nat) : wordOf p i < 18446744073709551616 := bitsTo_lt _ 64
theorem wordOf_congr {p q : Int → Bool} {i : Nat} (h : ∀ b : Nat, b < 64 → p ((64 * i + b : Nat) : Int) = q ((64 * i + b : Nat) : Int)) : wordOf p i = wordOf q i := bitsTo_congr h
theorem wordOf_or (p q : Int → Bool) (i : Nat) : wordOf p i ||| wordOf q i = wordOf (fun n => p n || q n) i := bitsTo_or _ _ _
theorem wordOf_and (p q : Int → Bool) (i : Nat) : wordOf p i &&& wordOf q i = wordOf (fun n => p n && q n) i := bitsTo_and _ _ _
theorem wordOf_andNot (p q : Int → Bool) (i : Nat) : wordOf p i &&& (18446744073709551615 - wordOf q i) = wordOf (fun n => p n && !q n) i := bitsTo_andNot _ _ 64

/-- the four words of a set -/
def Four (p : Int → Bool) (a0 a1 a2 a3 : Nat) : Prop := a0 = wordOf p 0 ∧ a1 = wordOf p 1 ∧ a2 = wordOf p 2 ∧ a3 = wordOf p 3

/-- one more number put in -/
theorem wordOf_put (p : Int → Bool) (x i r : Nat) (hr : r < 64) (hx : x = 64 * i + r) : wordOf p i ||| 2 ^ r = wordOf (fun n => p n || n == (x : Int)) i := by
  refine Nat.eq_of_testBit_eq fun j => ?_
  unfold wordOf
  rw [Nat.testBit_or, testBit_bitsTo, testBit_bitsTo, Nat.testBit_two_pow]
  subst hx
  have e : (((64 * i + j : Nat) : Int) == ((64 * i + r : Nat) : Int)) = decide (r = j) := by
    rw [Bool.eq_iff_iff, beq_iff_eq, decide_eq_true_eq]; omega
  show _ = (decide (j < 64) && (p ((64 * i + j : Nat) : Int) || (((64 * i + j : Nat) : Int) == ((64 * i + r : Nat) : Int))))
  rw [e]
  by_cases h : r = j
  · subst h; simp [hr]
  · simp [h]
theorem wordOf_put_other (p : Int → Bool) (x i : Nat) (hx : x / 64 ≠ i) : wordOf (fun n => p n || n == (x : Int)) i = wordOf p i :=
  wordOf_congr fun b hb => by
    have : (((64 * i + b : Nat) : Int) == (x : Int)) = false := by
      rw [← Bool.not_eq_true, beq_iff_eq]; intro e; omega
    rw [this, Bool.or_false]

theorem two_pow_small (r : Nat) (hr : r < 64) : 2 ^ r < 18446744073709551616 := by
  have : (2 : Nat) ^ r < 2 ^ 64 := Nat.pow_lt_pow_right (by omega) hr
  exact this

/-- word i without its bits below t -/
def wordFrom (p : Int → Bool) (i t : Nat) : Nat := bitsTo (fun b => decide (t ≤ b) && p ((64 * i + b : Nat) : Int)) 64
theorem wordFrom_zero (p : Int → Bool) (i : Nat) : wordFrom p i 0 = wordOf p i := bitsTo_congr fun j _ => by simp
theorem wordFrom_lt (p : Int → Bool) (i t : Nat) : wordFrom p i t < 18446744073709551616 := bitsTo_lt _ 64
theorem testBit_wordFrom (p : Int → Bool) (i t j : Nat) : (wordFrom p i t).testBit j = (decide (j < 64) && (decide (t ≤ j) && p ((64 * i + j : Nat) : Int))) := testBit_bitsTo _ _ _

theorem and_pred_testBit (m c j : Nat) : ((2 ^ c * (2 * m + 1)) &&& (2 ^ c * (2 * m + 1) - 1)).testBit j = ((2 ^ c * (2 * m + 1)).testBit j && decide (j ≠ c)) := by
  have hp : 0 < 2 ^ c := Nat.two_pow_pos c
  have e1 : 2 ^ c * (2 * m + 1) = 2 ^ (c + 1) * m + 2 ^ c := by
    rw [Nat.pow_succ, Nat.mul_add, Nat.mul_one, Nat.mul_assoc]
  have hlt : 2 ^ c < 2 ^ (c + 1) := Nat.pow_lt_pow_right (by omega) (by omega)
  have e2 : 2 ^ c * (2 * m + 1) - 1 = 2 ^ (c + 1) * m + (2 ^ c - 1) := by rw [e1]; omega
  rw [Nat.testBit_and, e2, e1, Nat.testBit_two_pow_mul_add _ hlt, Nat.testBit_two_pow_mul_add _ (show 2 ^ c - 1 < 2 ^ (c + 1) by omega)]
  by_cases hj : j < c + 1
  · rw [if_pos hj, if_pos hj, Nat.testBit_two_pow, Nat.testBit_two_pow_sub_one]
    by_cases hjc : j = c
    · subst hjc; simp
    · have : ¬ c = j := fun e => hjc e.symm
      simp [this]
  · rw [if_neg hj, if_neg hj]
    have : j ≠ c := by omega
    simp [this]

/-- what the lowest bit of the rest of a word tells -/
theorem wordFrom_next {p : Int → Bool} {i t : Nat} (h : wordFrom p i t ≠ 0) :
    Lib.ctz 64 (wordFrom p i t) < 64 ∧ t ≤ Lib.ctz 64 (wordFrom p i t) ∧ p ((64 * i + Lib.ctz 64 (wordFrom p i t) : Nat) : Int) = true ∧
    (∀ b, t ≤ b → b < Lib.ctz 64 (wordFrom p i t) → p ((64 * i + b : Nat) : Int) = false) ∧
    wordFrom p i t &&& (wordFrom p i t - 1) = wordFrom p i (Lib.ctz 64 (wordFrom p i t) + 1) := by
  obtain ⟨m, hm, hc⟩ := Lib.ctzFrom_spec 64 (wordFrom p i t) (by omega) (wordFrom_lt p i t)
  have hz : Lib.ctz 64 (wordFrom p i t) = Lib.ctzFrom 64 (wordFrom p i t) := by unfold Lib.ctz; rw [if_neg h]
  rw [hz]
  generalize Lib.ctzFrom 64 (wordFrom p i t) = c at *
  have hlt : 2 ^ c < 2 ^ (c + 1) := Nat.pow_lt_pow_right (by omega) (by omega)
  have bit : ∀ j, j ≤ c → (wordFrom p i t).testBit j = decide (j = c) := fun j hj => by
    have e1 : wordFrom p i t = 2 ^ (c + 1) * m + 2 ^ c := by
      rw [hm, Nat.pow_succ, Nat.mul_add, Nat.mul_one, Nat.mul_assoc]
    rw [e1, Nat.testBit_two_pow_mul_add _ hlt, if_pos (by omega), Nat.testBit_two_pow]
    by_cases hjc : j = c
    · subst hjc; simp
    · have : ¬ c = j := fun e => hjc e.symm
      simp [hjc, this]
  have hbc := bit c (Nat.le_refl _)
  rw [testBit_wordFrom] at hbc
  have hbc' : (decide (c < 64) && (decide (t ≤ c) && p ((64 * i + c : Nat) : Int))) = true := by rw [hbc]; simp
  simp only [Bool.and_eq_true, decide_eq_true_eq] at hbc'
  refine ⟨hc, hbc'.2.1, hbc'.2.2, ?_, ?_⟩
  · intro b hb1 hb2
    have := bit b (by omega)
    rw [testBit_wordFrom] at this
    have h64 : b < 64 := by omega
    have hne : b ≠ c := by omega
    simpa [h64, hb1, hne] using this
  · refine Nat.eq_of_testBit_eq fun j => ?_
    have e := and_pred_testBit m c j
    rw [← hm] at e
    rw [e, testBit_wordFrom, testBit_wordFrom]
    by_cases hj : j ≤ c
    · have hb := bit j hj
      rw [testBit_wordFrom] at hb
      rw [hb]
      have h2 : ¬ c + 1 ≤ j := by omega
      by_cases hjc : j = c
      · simp [hjc]; omega
      · simp [hjc, h2]
    · have h1 : t ≤ j := by omega
      have h2 : c + 1 ≤ j := by omega
      have h3 : j ≠ c := by omega
      simp [h1, h2, h3]

theorem pickN_skip (p : Int → Bool) (m : Nat) : ∀ (d k : Nat), (∀ b, k ≤ b → b < k + d → p ((m + b : Nat) : Int) = false) → pickN p m (k + d) = pickN p m k
  | 0, k, _ => rfl
  | d + 1, k, h => by
    rw [← Nat.add_assoc, pickN_snoc, h (k + d) (by omega) (by omega), pickN_skip p m d k fun b h1 h2 => h b h1 (by omega)]
    simp
theorem wordFrom_done {p : Int → Bool} {i t : Nat} (ht : t ≤ 64) (h : wordFrom p i t = 0) : pickN p 0 (64 * i + t) = pickN p 0 (64 * (i + 1)) := by
  have e : 64 * (i + 1) = (64 * i + t) + (64 - t) := by omega
  rw [e]
  refine (pickN_skip p 0 (64 - t) (64 * i + t) ?_).symm
  intro b h1 h2
  have := bitsTo_zero.1 h (b - 64 * i) (by omega)
  have h3 : t ≤ b - 64 * i := by omega
  have h4 : 64 * i + (b - 64 * i) = 0 + b := by omega
  rw [h4] at this
  simpa [h3] using this
theorem wordFrom_take {p : Int → Bool} {i t : Nat} (h : wordFrom p i t ≠ 0) :
    pickN p 0 (64 * i + (Lib.ctz 64 (wordFrom p i t) + 1)) = pickN p 0 (64 * i + t) ++ [((64 * i + Lib.ctz 64 (wordFrom p i t) : Nat) : Int)] := by
  obtain ⟨h1, h2, h3, h4, -⟩ := wordFrom_next h
  generalize Lib.ctz 64 (wordFrom p i t) = c at *
  rw [← Nat.add_assoc, pickN_snoc, Nat.zero_add, if_pos h3]
  have e : 64 * i + c = (64 * i + t) + (c - t) := by omega
  conv => lhs; lhs; rw [e]
  refine congrArg (· ++ [((64 * i + c : Nat) : Int)]) (pickN_skip p 0 (c - t) (64 * i + t) ?_)
  intro b g1 g2
  have := h4 (b - 64 * i) (by omega) (by omega)
  have h5 : 64 * i + (b - 64 * i) = 0 + b := by omega
  rwa [h5] at this

end Go.Proofs.YtbiofikijehlcaaDoor

namespace Go.Proofs.YtbiofikijehlcaaDoor
open Go.RowKit

def U64 (a : Nat) : Prop := a < 18446744073709551616
theorem or64 {a b : Nat} (ha : U64 a) (hb : U64 b) : bits .or .u64 (a : Int) (b : Int) = ((a ||| b : Nat) : Int) := u64_or_nat a b ha hb
theorem and64 {a b : Nat} (ha : U64 a) (hb : U64 b) : bits .and .u64 (a : Int) (b : Int) = ((a &&& b : Nat) : Int) := u64_and_nat a b ha hb
/-- the complement of a word -/
def neg64 (b : Nat) : Nat := 18446744073709551615 - b
theorem andNot64 {a b : Nat} (ha : U64 a) (hb : U64 b) : bits .andNot .u64 (a : Int) (b : Int) = ((a &&& neg64 b : Nat) : Int) := u64_andNot_nat a b ha hb

set_option maxHeartbeats 1000000 in
theorem wjoin_any (a0 a1 a2 a3 b0 b1 b2 b3 : Nat) (w : World) (ha0 : U64 a0) (ha1 : U64 a1) (ha2 : U64 a2) (ha3 : U64 a3) (hb0 : U64 b0) (hb1 : U64 b1) (hb2 : U64 b2) (hb3 : U64 b3) :
    Calls Tryd.prog 21 #[.agg #[.int .u64 a0, .int .u64 a1, .int .u64 a2, .int .u64 a3], .agg #[.int .u64 b0, .int .u64 b1, .int .u64 b2, .int .u64 b3]] w fun e w' =>
      e = .returned (.agg #[.int .u64 (a0 ||| b0 : Nat), .int .u64 (a1 ||| b1 : Nat), .int .u64 (a2 ||| b2 : Nat), .int .u64 (a3 ||| b3 : Nat)]) ∧ Below w.heap.size w w' := by
  have e0 := or64 ha0 hb0
  have e1 := or64 ha1 hb1
  have e2 := or64 ha2 hb2
  have e3 := or64 ha3 hb3
  clear ha0 ha1 ha2 ha3 hb0 hb1 hb2 hb3
  go_enter Tryd.func21, Tryd.ntmps21
  go_wp2
  refine wp_loop_rounds 6 ?_
  rw [rounds_succ]; go_wp2
  go_region
  go_wp2
  rw [rounds_succ]; go_wp2
  go_region
  go_wp2
  rw [rounds_succ]; go_wp2
  go_region
  go_wp2
  rw [rounds_succ]; go_wp2
  go_region
  go_wp2
  rw [rounds_succ]; go_wp2
  refine bodyPost_ret (v := .agg #[.int .u64 (a0 ||| b0 : Nat), .int .u64 (a1 ||| b1 : Nat), .int .u64 (a2 ||| b2 : Nat), .int .u64 (a3 ||| b3 : Nat)]) (by simp [results, Tryd.results21, go_sem]) rfl ⟨rfl, ?_⟩
  go_grown

set_option maxHeartbeats 1000000 in
theorem wmeet_any (a0 a1 a2 a3 b0 b1 b2 b3 : Nat) (w : World) (ha0 : U64 a0) (ha1 : U64 a1) (ha2 : U64 a2) (ha3 : U64 a3) (hb0 : U64 b0) (hb1 : U64 b1) (hb2 : U64 b2) (hb3 : U64 b3) :
    Calls Tryd.prog 41 #[.agg #[.int .u64 a0, .int .u64 a1, .int .u64 a2, .int .u64 a3], .agg #[.int .u64 b0, .int .u64 b1, .int .u64 b2, .int .u64 b3]] w fun e w' =>
      e = .returned (.agg #[.int .u64 (a0 &&& b0 : Nat), .int .u64 (a1 &&& b1 : Nat), .int .u64 (a2 &&& b2 : Nat), .int .u64 (a3 &&& b3 : Nat)]) ∧ Below w.heap.size w w' := by
  have e0 := and64 ha0 hb0
  have e1 := and64 ha1 hb1
  have e2 := and64 ha2 hb2
  have e3 := and64 ha3 hb3
  clear ha0 ha1 ha2 ha3 hb0 hb1 hb2 hb3
  go_enter Tryd.func41, Tryd.ntmps41
  go_wp2
  refine wp_loop_rounds 6 ?_
  rw [rounds_succ]; go_wp2
  go_region
  go_wp2
  rw [rounds_succ]; go_wp2
  go_region
  go_wp2
  rw [rounds_succ]; go_wp2
  go_region
  go_wp2
  rw [rounds_succ]; go_wp2
  go_region
  go_wp2
  rw [rounds_succ]; go_wp2
  refine bodyPost_ret (v := .agg #[.int .u64 (a0 &&& b0 : Nat), .int .u64 (a1 &&& b1 : Nat), .int .u64 (a2 &&& b2 : Nat), .int .u64 (a3 &&& b3 : Nat)]) (by simp [results, Tryd.results41, go_sem]) rfl ⟨rfl, ?_⟩
  go_grown

set_option maxHeartbeats 1000000 in
theorem wless_any (a0 a1 a2 a3 b0 b1 b2 b3 : Nat) (w : World) (ha0 : U64 a0) (ha1 : U64 a1) (ha2 : U64 a2) (ha3 : U64 a3) (hb0 : U64 b0) (hb1 : U64 b1) (hb2 : U64 b2) (hb3 : U64 b3) :
    Calls Tryd.prog 18 #[.agg #[.int .u64 a0, .int .u64 a1, .int .u64 a2, .int .u64 a3], .agg #[.int .u64 b0, .int .u64 b1, .int .u64 b2, .int .u64 b3]] w fun e w' =>
      e = .returned (.agg #[.int .u64 (a0 &&& neg64 b0 : Nat), .int .u64 (a1 &&& neg64 b1 : Nat), .int .u64 (a2 &&& neg64 b2 : Nat), .int .u64 (a3 &&& neg64 b3 : Nat)]) ∧ Below w.heap.size w w' := by
  have e0 := andNot64 ha0 hb0
  have e1 := andNot64 ha1 hb1
  have e2 := andNot64 ha2 hb2
  have e3 := andNot64 ha3 hb3
  clear ha0 ha1 ha2 ha3 hb0 hb1 hb2 hb3
  go_enter Tryd.func18, Tryd.ntmps18
  go_wp2
  refine wp_loop_rounds 6 ?_
  rw [rounds_succ]; go_wp2
  go_region
  go_wp2
  rw [rounds_succ]; go_wp2
  go_region
  go_wp2
  rw [rounds_succ]; go_wp2
  go_region
  go_wp2
  rw [rounds_succ]; go_wp2
  go_region
  go_wp2
  rw [rounds_succ]; go_wp2
  refine bodyPost_ret (v := .agg #[.int .u64 (a0 &&& neg64 b0 : Nat), .int .u64 (a1 &&& neg64 b1 : Nat), .int .u64 (a2 &&& neg64 b2 : Nat), .int .u64 (a3 &&& neg64 b3 : Nat)]) (by simp [results, Tryd.results18, go_sem]) rfl ⟨rfl, ?_⟩
  go_grown

end Go.Proofs.YtbiofikijehlcaaDoor
