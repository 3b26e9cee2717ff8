/- What a table of holdings is, and what is added, dropped, got, cut short, busy, over, in plain words. No program's text is walked here. The reference's Same of two lists of numbers (bailiwickref01). What the small readers of a slice of int answer: set.Right, the reference's Right, in and Same; the slices read as lists of numbers. Plain facts on sets kept as bits of four words; no condition. What the words of a set answer: join, meet, less and empty, on four words each; every word below 2^64. What set.pack, set.packBoth, words.empty and OnesCount64 answer: four words with a bit for each number of the set, or no set. bits.TrailingZeros64 of Go's library at this dump, by the library's contract: its table is taken as Go's text lays it. What the words of a set list: the numbers of the set, rising, in new memory; the table of trailing zeros as Go's text lays it. What is taken of the library's tables, where a seat's code reaches them: nothing, or that they lie as Go's text lays them. Words for memory: a slice of holdings that reads as a table; a holding by value. -/
import Derived.Test.YtchogijdkagiiaaGreatDoorMg01
import Derived.LoopTactic
import Derived.Deep.QuietTactic
import Derived.BigQuiet
import Derived.Lib.TrailingZeros
import Derived.RegionTactic
import Derived.ChangeAlike
import Derived.Handy
import Derived.Laws.BitsAllLaws
import Derived.ChangeKeysEq
import Derived.Shelf.Spec.TrailingZeros
import Derived.Shelf.Lays7
import Derived.Test.YtchogijdkagiiaaGreatDoorProg
namespace Go.Proofs.YtchogijdkagiiaaGreatDoor

/-- a holding: its number, which things, from when till when -/
structure Hd where
  id : Int
  things : List Int
  frm : Int
  to : Int
def hd0 : Hd := ⟨0, [], 0, 0⟩
abbrev Tb := List Hd
/-- do two spans meet -/
def meetsZ (a b c d : Int) : Bool := decide (a < b ∧ c < d ∧ a < d ∧ c < b)
/-- have two sets a number in common -/
def touchB (a b : List Int) : Bool := a.any fun n => b.contains n
def clashH (a b : Hd) : Bool := meetsZ a.frm a.to b.frm b.to && touchB a.things b.things
def MayH (h : Hd) : Prop := 0 < h.things.length ∧ rightB h.things = true ∧ 0 ≤ h.frm ∧ h.frm < h.to ∧ h.to ≤ 4611686018427387904
instance (h : Hd) : Decidable (MayH h) := by unfold MayH; infer_instance
def mayH (h : Hd) : Bool := decide (MayH h)
def Ahead (a b : Hd) : Prop := a.id < b.id ∧ clashH a b = false
instance (a b : Hd) : Decidable (Ahead a b) := by unfold Ahead; infer_instance
structure RightT (l : Tb) : Prop where
  few : l.length ≤ 256
  may : ∀ h ∈ l, MayH h
  row : l.Pairwise Ahead
def rightT (l : Tb) : Bool := decide (l.length ≤ 256) && (l.all mayH && decide (l.Pairwise Ahead))
theorem rightT_is {l : Tb} : rightT l = true ↔ RightT l := by
  unfold rightT mayH
  rw [Bool.and_eq_true, Bool.and_eq_true, decide_eq_true_eq, decide_eq_true_eq, List.all_eq_true]
  constructor
  · rintro ⟨h1, h2, h3⟩
    exact ⟨h1, fun h hh => of_decide_eq_true (h2 h hh), h3⟩
  · rintro ⟨h1, h2, h3⟩
    exact ⟨h1, fun h hh => decide_eq_true (h2 h hh), h3⟩
/-- the table with h, by rising numbers -/
def insT (l : Tb) (h : Hd) : Tb := l.filter (fun x => decide (x.id < h.id)) ++ h :: l.filter (fun x => decide (h.id < x.id))
def hasT (l : Tb) (id : Int) : Bool := l.any fun x => x.id == id
def getT (l : Tb) (id : Int) : Hd := ((if rightT l = true then l else []).find? fun x => x.id == id).getD hd0
def gotT (l : Tb) (id : Int) : Bool := rightT l && hasT l id
def addE (l : Tb) (h : Hd) : Int := if (rightT l && mayH h) = false then 1 else if hasT l h.id = true then 7 else if 256 ≤ l.length ∨ (l.any fun x => clashH x h) = true then 5 else 0
def addT (l : Tb) (h : Hd) : Tb := if addE l h = 0 then insT l h else l
/-- what is busy in a span -/
def busyP (l : Tb) (a b : Int) (n : Int) : Bool := l.any fun x => meetsZ x.frm x.to a b && x.things.contains n
def busyT (l : Tb) (a b : Int) : List Int := if rightT l = true then pickL (busyP l a b) else []
/-- a number more in a rising list -/
def insZ (x : Int) : List Int → List Int
  | [] => [x]
  | y :: r => if x < y then x :: y :: r else if x = y then y :: r else y :: insZ x r
def endsT (l : Tb) (frm : Int) : List Int := if rightT l = true then ((l.map Hd.to).filter fun t => decide (frm < t)).foldr insZ [] else []

/-! two rows by rising numbers with the same holdings are one -/
section
variable {l : Tb} {h a b x : Hd} {id : Int}
theorem RightT.ids (hl : RightT l) : l.Pairwise (fun x y => x.id < y.id) := hl.row.imp fun h => h.1
theorem RightT.sub {m : Tb} (hl : RightT l) (h : m.Sublist l) : RightT m := ⟨Nat.le_trans h.length_le hl.few, fun x hx => hl.may x (h.subset hx), hl.row.sublist h⟩
theorem RightT.filter (hl : RightT l) (p : Hd → Bool) : RightT (l.filter p) := hl.sub List.filter_sublist
/-- of one number there is one holding -/
theorem RightT.one (hl : RightT l) (ha : a ∈ l) (hb : b ∈ l) (h : a.id = b.id) : a = b := by
  have := hl.ids
  induction l with
  | nil => cases ha
  | cons y r ih =>
    rw [List.pairwise_cons] at this
    rcases List.mem_cons.1 ha with e1 | e1
    · rcases List.mem_cons.1 hb with e2 | e2
      · rw [e1, e2]
      · have := this.1 b e2; rw [← e1] at this; omega
    · rcases List.mem_cons.1 hb with e2 | e2
      · have := this.1 a e1; rw [← e2] at this; omega
      · exact ih (hl.sub (List.sublist_cons_self ..)) e1 e2 this.2
theorem meets_comm (a b c d : Int) : meetsZ a b c d = meetsZ c d a b := decide_eq_decide.2 (by omega)
theorem touch_iff {a b : List Int} : touchB a b = true ↔ ∃ n, n ∈ a ∧ n ∈ b := by
  unfold touchB
  rw [List.any_eq_true]
  constructor
  · rintro ⟨n, h1, h2⟩; exact ⟨n, h1, List.contains_iff_mem.1 h2⟩
  · rintro ⟨n, h1, h2⟩; exact ⟨n, h1, List.contains_iff_mem.2 h2⟩
theorem touch_comm (a b : List Int) : touchB a b = touchB b a := by
  rw [Bool.eq_iff_iff, touch_iff, touch_iff]
  exact ⟨fun ⟨n, h1, h2⟩ => ⟨n, h2, h1⟩, fun ⟨n, h1, h2⟩ => ⟨n, h2, h1⟩⟩
theorem clash_comm (a b : Hd) : clashH a b = clashH b a := by unfold clashH; rw [meets_comm, touch_comm]
theorem has_iff_id : hasT l id = true ↔ ∃ x ∈ l, x.id = id := by
  unfold hasT
  rw [List.any_eq_true]
  exact ⟨fun ⟨x, h1, h2⟩ => ⟨x, h1, by simpa using h2⟩, fun ⟨x, h1, h2⟩ => ⟨x, h1, by simpa using h2⟩⟩
theorem hasT_no : hasT l id = false ↔ ∀ x ∈ l, x.id ≠ id := by
  constructor
  · intro h x hx e
    rw [has_iff_id.2 ⟨x, hx, e⟩] at h; cases h
  · intro h
    refine Bool.eq_false_iff.2 fun h' => ?_
    obtain ⟨x, hx, e⟩ := has_iff_id.1 h'
    exact h x hx e
theorem get_is (hr : rightT l = true) (hx : x ∈ l) : getT l x.id = x := by
  have hl := rightT_is.1 hr
  unfold getT
  rw [if_pos hr]
  cases hf : l.find? (fun y => y.id == x.id) with
  | none => exact absurd (List.find?_eq_none.1 hf x hx) (by simp)
  | some y =>
    have h1 := List.find?_some hf
    have h2 := List.mem_of_find?_eq_some hf
    show y = x
    exact hl.one h2 hx (by simpa using h1)
theorem get_none (h : gotT l id = false) : getT l id = hd0 := by
  unfold getT
  split
  · rename_i hr
    unfold gotT at h
    rw [hr, Bool.true_and] at h
    rw [List.find?_eq_none.2 (fun x hx => by simpa using hasT_no.1 h x hx)]
    rfl
  · rfl

/-! Adding -/
structure MayAdd (l : Tb) (h : Hd) : Prop where
  right : RightT l
  may : MayH h
  new : ∀ x ∈ l, x.id ≠ h.id
  room : l.length < 256
  free : ∀ x ∈ l, clashH x h = false
theorem add_ok : addE l h = 0 ↔ MayAdd l h := by
  unfold addE
  constructor
  · intro he
    split at he
    · omega
    · rename_i h1
      split at he
      · omega
      · rename_i h2
        split at he
        · omega
        · rename_i h3
          rw [Bool.not_eq_false, Bool.and_eq_true] at h1
          rw [Bool.not_eq_true] at h2
          rw [not_or, Bool.not_eq_true] at h3
          refine ⟨rightT_is.1 h1.1, of_decide_eq_true h1.2, hasT_no.1 h2, by omega, fun x hx => ?_⟩
          have := List.any_eq_false.1 h3.2 x hx
          simpa using this
  · intro hm
    rw [if_neg (by rw [rightT_is.2 hm.right, show mayH h = true from decide_eq_true hm.may]; simp), if_neg (by rw [hasT_no.2 hm.new]; simp), if_neg]
    rw [not_or, Bool.not_eq_true, List.any_eq_false]
    exact ⟨by have := hm.room; omega, fun x hx => by rw [hm.free x hx]; simp⟩
theorem mem_ins : x ∈ insT l h ↔ (x ∈ l ∧ x.id ≠ h.id) ∨ x = h := by
  unfold insT
  rw [List.mem_append, List.mem_cons, List.mem_filter, List.mem_filter, decide_eq_true_eq, decide_eq_true_eq]
  constructor
  · rintro (⟨h1, h2⟩ | h1 | ⟨h1, h2⟩)
    · exact .inl ⟨h1, by omega⟩
    · exact .inr h1
    · exact .inl ⟨h1, by omega⟩
  · rintro (⟨h1, h2⟩ | h1)
    · by_cases h3 : x.id < h.id
      · exact .inl ⟨h1, h3⟩
      · exact .inr (.inr ⟨h1, by omega⟩)
    · exact .inr (.inl h1)
theorem MayAdd.mem (hm : MayAdd l h) : x ∈ insT l h ↔ x ∈ l ∨ x = h := by
  rw [mem_ins]
  constructor
  · rintro (⟨h1, _⟩ | h1)
    · exact .inl h1
    · exact .inr h1
  · rintro (h1 | h1)
    · exact .inl ⟨h1, hm.new x h1⟩
    · exact .inr h1
theorem ins_len (hn : ∀ x ∈ l, x.id ≠ h.id) : (insT l h).length = l.length + 1 := by
  unfold insT
  rw [List.length_append, List.length_cons]
  have : ∀ l : Tb, (∀ x ∈ l, x.id ≠ h.id) → (l.filter fun x => decide (x.id < h.id)).length + (l.filter fun x => decide (h.id < x.id)).length = l.length := by
    intro l hl
    induction l with
    | nil => rfl
    | cons y r ih =>
      have ih := ih (fun x hx => hl x (List.mem_cons_of_mem _ hx))
      have hy := hl y (List.mem_cons_self ..)
      rw [List.filter_cons, List.filter_cons]
      by_cases h1 : y.id < h.id
      · rw [if_pos (by simpa using h1), if_neg (by simp; omega)]; simp; omega
      · rw [if_neg (by simpa using h1), if_pos (by simp; omega)]; simp; omega
  have := this l hn
  omega
theorem MayAdd.ids (hm : MayAdd l h) : (insT l h).Pairwise Ahead := by
  unfold insT
  rw [List.pairwise_append, List.pairwise_cons]
  refine ⟨(hm.right.filter _).row, ⟨fun x hx => ?_, (hm.right.filter _).row⟩, fun x hx y hy => ?_⟩
  · rw [List.mem_filter, decide_eq_true_eq] at hx
    exact ⟨hx.2, by rw [clash_comm]; exact hm.free x hx.1⟩
  · rw [List.mem_filter, decide_eq_true_eq] at hx
    rcases List.mem_cons.1 hy with e | e
    · subst e; exact ⟨hx.2, hm.free x hx.1⟩
    · rw [List.mem_filter, decide_eq_true_eq] at e
      have hlt : x.id < y.id := by omega
      -- both stand in the table
      have key : ∀ l : Tb, l.Pairwise Ahead → x ∈ l → y ∈ l → Ahead x y := by
        intro l
        induction l with
        | nil => intro _ h1; cases h1
        | cons z r ih =>
          intro hp h1 h2
          rw [List.pairwise_cons] at hp
          rcases List.mem_cons.1 h1 with e1 | e1
          · rcases List.mem_cons.1 h2 with e2 | e2
            · rw [e1, e2] at hlt; omega
            · rw [e1]; exact hp.1 y e2
          · rcases List.mem_cons.1 h2 with e2 | e2
            · have := (hp.1 x e1).1; rw [← e2] at this; omega
            · exact ih hp.2 e1 e2
      exact key l hm.right.row hx.1 e.1
theorem MayAdd.right' (hm : MayAdd l h) : RightT (insT l h) :=
  ⟨by rw [ins_len hm.new]; exact hm.room, fun x hx => by
    rcases hm.mem.1 hx with e | e
    · exact hm.right.may x e
    · subst e; exact hm.may, hm.ids⟩
/-! Cutting short -/
/-! What is busy, and what is over -/
theorem busy_right (a b : Int) : rightB (busyT l a b) = true := by
  unfold busyT
  split
  · exact right_pickL _
  · rfl
theorem mem_busy (hr : rightT l = true) {a b n : Int} : n ∈ busyT l a b ↔ ∃ x ∈ l, meetsZ x.frm x.to a b = true ∧ n ∈ x.things := by
  unfold busyT busyP
  rw [if_pos hr, mem_pickL]
  constructor
  · rintro ⟨_, _, h⟩
    obtain ⟨x, hx, h⟩ := List.any_eq_true.1 h
    rw [Bool.and_eq_true, List.contains_iff_mem] at h
    exact ⟨x, hx, h⟩
  · rintro ⟨x, hx, h1, h2⟩
    have := right_mem ((rightT_is.1 hr).may x hx).2.1 n h2
    exact ⟨this.1, this.2, List.any_eq_true.2 ⟨x, hx, by rw [h1, List.contains_iff_mem.2 h2]; rfl⟩⟩
/-- what is busy in a span is what can't be added for it -/
theorem busy_apart (hr : rightT l = true) (hh : MayH h) : (∀ x ∈ l, clashH x h = false) ↔ apartB (busyT l h.frm h.to) h.things = true := by
  unfold apartB
  rw [busy_right, hh.2.1, Bool.true_and, Bool.true_and, List.all_eq_true]
  constructor
  · intro hc n hn
    rw [Bool.not_eq_true', ← Bool.not_eq_true, List.contains_iff_mem]
    intro hm
    obtain ⟨x, hx, h1, h2⟩ := (mem_busy hr).1 hn
    have := hc x hx
    unfold clashH at this
    rw [h1, touch_iff.2 ⟨n, h2, hm⟩] at this
    cases this
  · intro ha x hx
    refine Bool.eq_false_iff.2 fun hc => ?_
    unfold clashH at hc
    rw [Bool.and_eq_true] at hc
    obtain ⟨n, h1, h2⟩ := touch_iff.1 hc.2
    have := ha n ((mem_busy hr).2 ⟨x, hx, hc.1, h1⟩)
    rw [List.contains_iff_mem.2 h2] at this
    cases this
end

/-! How much is busy at a time -/
theorem right_nodup : ∀ {l : List Int}, rightB l = true → l.Nodup
  | [], _ => List.nodup_nil
  | x :: r, h => by
    rw [List.nodup_cons]
    refine ⟨fun hm => ?_, right_nodup (right_tail h)⟩
    have := right_below h x hm
    omega
end Go.Proofs.YtchogijdkagiiaaGreatDoor

namespace Go.Proofs.YtchogijdkagiiaaGreatDoor
open Go.RowKit

def sameB (xs ys : List Int) : Bool := xs == ys
theorem sameB_iff {xs ys : List Int} : sameB xs ys = true ↔ xs = ys := by unfold sameB; exact beq_iff_eq
set_option maxHeartbeats 400000 in
theorem same_any (A A' : Option Addr) (n c n' c' : Nat) (xs ys : List Int) (w : World) (B B' : Nat) (hr : RI w B A n xs) (hr' : RI w B' A' n' ys) (hn : n ≤ maxLen) (hn' : n' ≤ maxLen) :
    Calls Tryz.prog 54 #[.slice A n c, .slice A' n' c'] w fun e w' => e = .returned (.bool (sameB xs ys)) ∧ ∃ k, w' = w.drewN k := by
  unfold maxLen at hn hn'
  have HLEN := Lib.hid hr.1
  have HLEN' := Lib.hid hr'.1
  by_cases hnn : n = n'
  · subst hnn
    go_enter Tryz.func54, Tryz.ntmps54
    go_wp2
    go_loopw [5] (fun i wr => ∃ k : Nat, k ≤ n ∧ i = .int .i64 k ∧ (∀ i, i < k → xs.getD i 0 = ys.getD i 0) ∧ ∃ q, wr = w.drewN q) (fun i _ => n - (intOf i).toNat)
    case atStart => exact ⟨0, Nat.zero_le _, rfl, fun i hi => absurd hi (by omega), 0, rfl⟩
    case round =>
      obtain ⟨k, hk, rfl, hpre, q, rfl⟩ := hrel
      have HP := Lib.hid hpre
      clear hpre
      by_cases hlt : k < n
      · obtain ⟨b, off, rfl, hb, hc⟩ := hr.2 (by omega)
        obtain ⟨b', off', rfl, hb', hc'⟩ := hr'.2 (by omega)
        have hck := hc k hlt
        have hck' := hc' k hlt
        clear hc hr hc' hr'
        by_cases hx : xs.getD k 0 = ys.getD k 0
        · have HX := Lib.hid hx
          have h1 : (xs.getD k 0 == ys.getD k 0) = true := by simpa using hx
          have h2 : (xs.getD k 0 != ys.getD k 0) = false := by simpa using hx
          clear hx
          generalize hx : xs.getD k 0 = x at *
          generalize hy : ys.getD k 0 = y at *
          have HXX := Lib.hid hx
          have HYY := Lib.hid hy
          clear hx hy
          go_wp2
          go_quiet (fail)
          go_wp2
          go_roundw
          case rel =>
            refine ⟨k + 1, by omega, by go_num, ?_, _, rfl⟩
            intro i hi
            rcases Nat.lt_or_ge i k with h | h
            · exact HP.out i h
            · obtain rfl : i = k := by omega
              rw [HXX.out, HYY.out]; exact HX.out
          case measure => simp [intOf]; omega
        · have hne : Hid (sameB xs ys = false) := Lib.hid (by
            rw [← Bool.not_eq_true, sameB_iff]
            rintro rfl; exact hx rfl)
          have h1 : (xs.getD k 0 == ys.getD k 0) = false := by simpa using hx
          have h2 : (xs.getD k 0 != ys.getD k 0) = true := by simpa using hx
          clear hx
          generalize xs.getD k 0 = x at *
          generalize ys.getD k 0 = y at *
          go_wp2
          go_quiet (fail)
          go_wp2
          go_ret
          exact ⟨ret_bool hne.out, _, World.drewN_drewN _ _ _⟩
      · have hall : Hid (sameB xs ys = true) := Lib.hid (by
          rw [sameB_iff]
          have h1 := HLEN.out; have h2 := HLEN'.out
          refine List.ext_getElem (by omega) fun i hi hi' => ?_
          have := HP.out i (by omega)
          rwa [show xs.getD i 0 = xs[i] by simp [List.getD, hi], show ys.getD i 0 = ys[i] by simp [List.getD, hi']] at this)
        clear hr hr'
        go_wp2
        go_ret
        exact ⟨ret_bool hall.out, _, rfl⟩
  · have hne : Hid (sameB xs ys = false) := Lib.hid (by
      rw [← Bool.not_eq_true, sameB_iff]
      rintro rfl
      have h1 := HLEN.out; have h2 := HLEN'.out; omega)
    clear hr hr'
    go_enter Tryz.func54, Tryz.ntmps54
    go_wp2
    go_ret
    exact ⟨ret_bool hne.out, 0, rfl⟩

end Go.Proofs.YtchogijdkagiiaaGreatDoor

namespace Go.Proofs.YtchogijdkagiiaaGreatDoor
open Go.RowKit

def lastOf (xs : List Int) (k : Nat) : Int := if k = 0 then -1 else xs.getD (k - 1) 0
theorem right_step (xs : List Int) (k : Nat) (hpre : ∀ i, i < k → okAt xs i) : okAt xs k ↔ (lastOf xs k < xs.getD k 0 ∧ xs.getD k 0 < 256) := by
  unfold lastOf
  rcases Nat.eq_zero_or_pos k with rfl | hp
  · unfold okAt; simp; omega
  · have h := hpre (k - 1) (by omega)
    rw [if_neg (by omega)]
    unfold okAt at h ⊢
    omega

set_option maxHeartbeats 400000 in
theorem right_any (A : Option Addr) (n c : Nat) (xs : List Int) (w : World) (B : Nat) (hr : RI w B A n xs) (hn : n ≤ maxLen) :
    Calls Tryz.prog 62 #[.slice A n c] w fun e w' => e = .returned (.bool (rightB xs)) ∧ w = w' := by
  unfold maxLen at hn
  have hlen := hr.1
  have HLEN := Lib.hid hlen
  clear hlen
  go_enter Tryz.func62, Tryz.ntmps62
  go_wp2
  go_loop [3, 8] (fun l i => ∃ k : Nat, k ≤ n ∧ i = .int .i64 k ∧ l = .int .i64 (lastOf xs k) ∧ (∀ i, i < k → okAt xs i)) (fun _ i => n - (intOf i).toNat)
  case atStart => exact ⟨0, Nat.zero_le _, rfl, rfl, fun i hi => absurd hi (by omega)⟩
  case round =>
    obtain ⟨k, hk, rfl, rfl, hpre⟩ := hrel
    have HP := Lib.hid hpre
    clear hpre
    by_cases hlt : k < n
    · obtain ⟨b, off, rfl, hb, hc⟩ := hr.2 (by omega)
      have hck := hc k hlt
      have hst := Lib.hid (right_step xs k HP.out)
      clear hc hr
      by_cases hok : lastOf xs k < xs.getD k 0 ∧ xs.getD k 0 < 256
      · obtain ⟨h1, h2⟩ := hok
        have g1 : ¬ xs.getD k 0 ≤ lastOf xs k := by omega
        have g2 : ¬ 256 ≤ xs.getD k 0 := by omega
        generalize hx : xs.getD k 0 = x at *
        generalize hl : lastOf xs k = l at *
        have HX := Lib.hid hx
        have HL := Lib.hid hl
        clear hx hl
        go_wp2
        go_round
        case rel =>
          refine ⟨k + 1, by omega, by go_num, ?_, ?_⟩
          · unfold lastOf
            rw [if_neg (by omega), Nat.add_sub_cancel, HX.out]
          · intro i hi
            rcases Nat.lt_or_ge i k with h | h
            · exact HP.out i h
            · obtain rfl : i = k := by omega
              exact hst.out.2 ⟨h1, h2⟩
        case measure => simp [intOf]; omega
      · have hbad := Lib.hid (rightB_false xs k (by rw [HLEN.out]; exact hlt) (fun h => hok (hst.out.1 h)))
        clear hst HP
        generalize xs.getD k 0 = x at *
        generalize lastOf xs k = l at *
        by_cases h1 : x ≤ l
        · clear hok
          go_wp2
          go_ret
          exact ⟨ret_bool hbad.out, rfl⟩
        · have h2 : 256 ≤ x := by omega
          clear hok
          go_wp2
          go_ret
          exact ⟨ret_bool hbad.out, rfl⟩
    · have hall : Hid (rightB xs = true) := Lib.hid ((rightB_iff xs).2 fun i hi => HP.out i (by have := HLEN.out; omega))
      clear hr
      go_wp2
      go_ret
      exact ⟨ret_bool hall.out, rfl⟩

set_option maxHeartbeats 400000 in
theorem in_any (A : Option Addr) (n c : Nat) (xs : List Int) (v : Int) (w : World) (B : Nat) (hr : RI w B A n xs) (hn : n ≤ maxLen) :
    Calls Tryz.prog 91 #[.slice A n c, .int .i64 v] w fun e w' => e = .returned (.bool (inB xs v)) ∧ w = w' := by
  unfold maxLen at hn
  have HLEN := Lib.hid hr.1
  go_enter Tryz.func91, Tryz.ntmps91
  go_wp2
  go_loop [5] (fun i => ∃ k : Nat, k ≤ n ∧ i = .int .i64 k ∧ (∀ i, i < k → xs.getD i 0 ≠ v)) (fun i => n - (intOf i).toNat)
  case atStart => exact ⟨0, Nat.zero_le _, rfl, fun i hi => absurd hi (by omega)⟩
  case round =>
    obtain ⟨k, hk, rfl, hpre⟩ := hrel
    have HP := Lib.hid hpre
    clear hpre
    by_cases hlt : k < n
    · obtain ⟨b, off, rfl, hb, hc⟩ := hr.2 (by omega)
      have hck := hc k hlt
      clear hc hr
      by_cases hx : xs.getD k 0 = v
      · have hin : Hid (inB xs v = true) := Lib.hid (by
          unfold inB
          rw [List.contains_iff_mem, ← hx]
          have hl : k < xs.length := by have := HLEN.out; omega
          have : xs.getD k 0 = xs[k] := by simp [List.getD, hl]
          rw [this]; exact List.getElem_mem hl)
        have h1 : (xs.getD k 0 == v) = true := by simpa using hx
        clear hx
        generalize xs.getD k 0 = x at *
        go_wp2
        go_ret
        exact ⟨ret_bool hin.out, rfl⟩
      · have h1 : (xs.getD k 0 == v) = false := by simpa using hx
        have HX := Lib.hid hx
        clear hx
        generalize hy : xs.getD k 0 = x at *
        have HY := Lib.hid hy
        clear hy
        go_wp2
        go_round
        case rel =>
          refine ⟨k + 1, by omega, by go_num, ?_⟩
          intro i hi
          rcases Nat.lt_or_ge i k with h | h
          · exact HP.out i h
          · obtain rfl : i = k := by omega
            rw [HY.out]; exact HX.out
        case measure => simp [intOf]; omega
    · have hall : Hid (inB xs v = false) := Lib.hid (by
        unfold inB
        rw [← Bool.not_eq_true, List.contains_iff_mem]
        intro hm
        obtain ⟨i, hi, e⟩ := List.getElem_of_mem hm
        have := HP.out i (by have := HLEN.out; omega)
        rw [show xs.getD i 0 = xs[i] by simp [List.getD, hi]] at this
        exact this e)
      clear hr
      go_wp2
      go_ret
      exact ⟨ret_bool hall.out, rfl⟩

set_option maxHeartbeats 400000 in
theorem refRight_any (A : Option Addr) (n c : Nat) (xs : List Int) (w : World) (B : Nat) (hr : RI w B A n xs) (hn : n ≤ maxLen) :
    Calls Tryz.prog 74 #[.slice A n c] w fun e w' => e = .returned (.bool (rightB xs)) ∧ ∃ k, w' = w.drewN k := by
  unfold maxLen at hn
  have HLEN := Lib.hid hr.1
  go_enter Tryz.func74, Tryz.ntmps74
  go_wp2
  go_loopw [3] (fun i wr => ∃ k : Nat, k ≤ n ∧ i = .int .i64 k ∧ (∀ i, i < k → okAt xs i) ∧ ∃ q, wr = w.drewN q) (fun i _ => n - (intOf i).toNat)
  case atStart => exact ⟨0, Nat.zero_le _, rfl, fun i hi => absurd hi (by omega), 0, rfl⟩
  case round =>
    obtain ⟨k, hk, rfl, hpre, q, rfl⟩ := hrel
    have HP := Lib.hid hpre
    clear hpre
    by_cases hlt : k < n
    · obtain ⟨b, off, rfl, hb, hc⟩ := hr.2 (by omega)
      have hck := hc k hlt
      have hcp := hc (k - 1) (by omega)
      clear hc hr
      have hok : Hid (okAt xs k ↔ (0 ≤ xs.getD k 0 ∧ xs.getD k 0 ≤ 255 ∧ (0 < k → xs.getD (k - 1) 0 < xs.getD k 0))) := Lib.hid Iff.rfl
      have hbad : Hid (¬ okAt xs k → rightB xs = false) := Lib.hid (rightB_false xs k (by rw [HLEN.out]; exact hlt))
      have hnext : Hid (okAt xs k → ∀ i, i < k + 1 → okAt xs i) := Lib.hid (by
        intro h i hi
        rcases Nat.lt_or_ge i k with h' | h'
        · exact HP.out i h'
        · obtain rfl : i = k := by omega
          exact h)
      generalize xs.getD k 0 = x at *
      generalize xs.getD (k - 1) 0 = y at *
      by_cases h1 : x < 0
      · have e1 : Hid (rightB xs = false) := Lib.hid (hbad.out (fun h => by have := hok.out.1 h; omega))
        clear hok hbad hnext
        go_wp2
        go_quiet (fail)
        go_wp2
        go_ret
        exact ⟨ret_bool e1.out, _, World.drewN_drewN _ _ _⟩
      · have d1 : decide (x < 0) = false := by simpa using h1
        by_cases h2 : 255 < x
        · have e1 : Hid (rightB xs = false) := Lib.hid (hbad.out (fun h => by have := hok.out.1 h; omega))
          clear hok hbad hnext
          go_wp2
          go_quiet (fail)
          go_wp2
          go_ret
          exact ⟨ret_bool e1.out, _, World.drewN_drewN _ _ _⟩
        · have d2 : decide (255 < x) = false := by simpa using h2
          by_cases h3 : 0 < k
          · by_cases h4 : x ≤ y
            · have e1 : Hid (rightB xs = false) := Lib.hid (hbad.out (fun h => by have := hok.out.1 h; omega))
              clear hok hbad hnext
              go_wp2
              go_quiet (fail)
              go_wp2
              go_ret
              exact ⟨ret_bool e1.out, _, World.drewN_drewN _ _ _⟩
            · have d4 : decide (x ≤ y) = false := by simpa using h4
              have e1 := Lib.hid (hnext.out (hok.out.2 ⟨by omega, by omega, fun _ => by omega⟩))
              clear hok hbad hnext
              go_wp2
              go_quiet (fail)
              go_wp2
              go_roundw
              case rel => exact ⟨k + 1, by omega, by go_num, e1.out, _, rfl⟩
              case measure => simp [intOf]; omega
          · have d3 : decide ((0 : Int) < (k : Int)) = false := by simp; omega
            have e1 := Lib.hid (hnext.out (hok.out.2 ⟨by omega, by omega, fun _ => by omega⟩))
            clear hok hbad hnext
            go_wp2
            go_quiet (fail)
            go_wp2
            go_roundw
            case rel => exact ⟨k + 1, by omega, by go_num, e1.out, _, rfl⟩
            case measure => simp [intOf]; omega
    · have hall : Hid (rightB xs = true) := Lib.hid ((rightB_iff xs).2 fun i hi => HP.out i (by have := HLEN.out; omega))
      clear hr
      go_wp2
      go_ret
      exact ⟨ret_bool hall.out, _, rfl⟩

theorem refHas_any (A : Option Addr) (n c : Nat) (xs : List Int) (v : Int) (w : World) (hr : RI w w.heap.size A n xs) (hn : n ≤ maxLen) :
    Calls Tryz.prog 77 #[.slice A n c, .int .i64 v] w fun e w' => e = .returned (.bool (hasB xs v)) ∧ ∃ k, w' = w.drewN k := by
  cases hx : rightB xs with
  | false =>
    have HX := Lib.hid hx
    have HL : Hid (hasB xs v = false) := Lib.hid (by unfold hasB; rw [hx]; rfl)
    clear hx
    go_enter Tryz.func77, Tryz.ntmps77
    go_wp2_with fail
    refine (refRight_any _ _ _ xs _ _ hr hn).mono ?_
    rintro e w1 ⟨rfl, k, rfl⟩
    rw [HX.out]
    go_wp2
    go_ret
    exact ⟨ret_bool HL.out, k, rfl⟩
  | true =>
    have HX := Lib.hid hx
    have HL : Hid (hasB xs v = inB xs v) := Lib.hid (by unfold hasB inB; rw [hx]; rfl)
    clear hx
    go_enter Tryz.func77, Tryz.ntmps77
    go_wp2_with fail
    refine (refRight_any _ _ _ xs _ _ hr hn).mono ?_
    rintro e w1 ⟨rfl, k, rfl⟩
    rw [HX.out]
    go_wp2_with fail
    refine (in_any _ _ _ xs v _ _ (hr.drewN k) hn).mono ?_
    rintro e w2 ⟨rfl, rfl⟩
    go_wp2
    go_ret
    exact ⟨ret_bool HL.out, k, rfl⟩

end Go.Proofs.YtchogijdkagiiaaGreatDoor

namespace Go.Proofs.YtchogijdkagiiaaGreatDoor

/-- the number whose bit b, of the first k ones, is q b -/
def bitsTo (q : Nat → Bool) : Nat → Nat
  | 0 => 0
  | k + 1 => bitsTo q k ||| (if q k then 2 ^ k else 0)
theorem testBit_bitsTo (q : Nat → Bool) (j : Nat) : ∀ k, (bitsTo q k).testBit j = (decide (j < k) && q j)
  | 0 => by simp [bitsTo]
  | k + 1 => by
    have ih := testBit_bitsTo q j k
    unfold bitsTo
    rw [Nat.testBit_or, ih]
    by_cases hj : j = k
    · subst hj
      by_cases h : q j = true <;> simp [h]
    · have e : (if q k then 2 ^ k else 0 : Nat).testBit j = false := by
        split
        · rw [Nat.testBit_two_pow]; simp; omega
        · simp
      rw [e, Bool.or_false]
      have : decide (j < k + 1) = decide (j < k) := by
        rw [decide_eq_decide]; omega
      rw [this]
theorem bitsTo_lt (q : Nat → Bool) : ∀ k, bitsTo q k < 2 ^ k
  | 0 => by simp [bitsTo]
  | k + 1 => by
    have ih := bitsTo_lt q k
    unfold bitsTo
    refine Nat.or_lt_two_pow (by have : 2 ^ k < 2 ^ (k + 1) := Nat.pow_lt_pow_right (by omega) (by omega); omega) ?_
    split
    · exact Nat.pow_lt_pow_right (by omega) (by omega)
    · exact Nat.two_pow_pos _
theorem bitsTo_congr {q r : Nat → Bool} {k : Nat} (h : ∀ j, j < k → q j = r j) : bitsTo q k = bitsTo r k := by
  refine Nat.eq_of_testBit_eq fun j => ?_
  rw [testBit_bitsTo, testBit_bitsTo]
  by_cases hj : j < k
  · rw [h j hj]
  · simp [hj]
theorem bitsTo_and (q r : Nat → Bool) (k : Nat) : bitsTo q k &&& bitsTo r k = bitsTo (fun j => q j && r j) k := by
  refine Nat.eq_of_testBit_eq fun j => ?_
  rw [Nat.testBit_and, testBit_bitsTo, testBit_bitsTo, testBit_bitsTo]
  cases decide (j < k) <;> simp
theorem testBit_compl {k b : Nat} (hb : b < 2 ^ k) (j : Nat) : (2 ^ k - 1 - b).testBit j = (decide (j < k) && !b.testBit j) := by
  rw [Nat.sub_sub, Nat.add_comm 1 b]
  exact Nat.testBit_two_pow_sub_succ hb j
theorem bitsTo_andNot (q r : Nat → Bool) (k : Nat) : bitsTo q k &&& (2 ^ k - 1 - bitsTo r k) = bitsTo (fun j => q j && !r j) k := by
  refine Nat.eq_of_testBit_eq fun j => ?_
  rw [Nat.testBit_and, testBit_compl (bitsTo_lt r k), testBit_bitsTo, testBit_bitsTo, testBit_bitsTo]
  cases decide (j < k) <;> simp
theorem bitsTo_zero {q : Nat → Bool} {k : Nat} : bitsTo q k = 0 ↔ ∀ j, j < k → q j = false := by
  constructor
  · intro h j hj
    have := testBit_bitsTo q j k
    rw [h] at this
    simpa [hj] using this.symm
  · intro h
    refine Nat.eq_of_testBit_eq fun j => ?_
    rw [testBit_bitsTo]
    by_cases hj : j < k
    · simp [h j hj]
    · simp [hj]

/-- word i of the set of those that p says yes to -/
def wordOf (p : Int → Bool) (i : Nat) : Nat := bitsTo (fun b => p ((64 * i + b : Nat) : Int)) 64
theorem wordOf_lt (p : Int → Bool) (i : Nat) : wordOf p i < 18446744073709551616 := bitsTo_lt _ 64
theorem wordOf_congr {p q : Int → Bool} {i : Nat} (h : ∀ b : Nat, b < 64 → p ((64 * i + b : Nat) : Int) = q ((64 * i + b : Nat) : Int)) : wordOf p i = wordOf q i := bitsTo_congr h
theorem wordOf_and (p q : Int → Bool) (i : Nat) : wordOf p i &&& wordOf q i = wordOf (fun n => p n && q n) i := bitsTo_and _ _ _
theorem wordOf_andNot (p q : Int → Bool) (i : Nat) : wordOf p i &&& (18446744073709551615 - wordOf q i) = wordOf (fun n => p n && !q n) i := bitsTo_andNot _ _ 64

/-- the four words of a set -/
def Four (p : Int → Bool) (a0 a1 a2 a3 : Nat) : Prop := a0 = wordOf p 0 ∧ a1 = wordOf p 1 ∧ a2 = wordOf p 2 ∧ a3 = wordOf p 3

/-- one more number put in -/
theorem wordOf_put (p : Int → Bool) (x i r : Nat) (hr : r < 64) (hx : x = 64 * i + r) : wordOf p i ||| 2 ^ r = wordOf (fun n => p n || n == (x : Int)) i := by
  refine Nat.eq_of_testBit_eq fun j => ?_
  unfold wordOf
  rw [Nat.testBit_or, testBit_bitsTo, testBit_bitsTo, Nat.testBit_two_pow]
  subst hx
  have e : (((64 * i + j : Nat) : Int) == ((64 * i + r : Nat) : Int)) = decide (r = j) := by
    rw [Bool.eq_iff_iff, beq_iff_eq, decide_eq_true_eq]; omega
  show _ = (decide (j < 64) && (p ((64 * i + j : Nat) : Int) || (((64 * i + j : Nat) : Int) == ((64 * i + r : Nat) : Int))))
  rw [e]
  by_cases h : r = j
  · subst h; simp [hr]
  · simp [h]
theorem wordOf_put_other (p : Int → Bool) (x i : Nat) (hx : x / 64 ≠ i) : wordOf (fun n => p n || n == (x : Int)) i = wordOf p i :=
  wordOf_congr fun b hb => by
    have : (((64 * i + b : Nat) : Int) == (x : Int)) = false := by
      rw [← Bool.not_eq_true, beq_iff_eq]; intro e; omega
    rw [this, Bool.or_false]

theorem two_pow_small (r : Nat) (hr : r < 64) : 2 ^ r < 18446744073709551616 := by
  have : (2 : Nat) ^ r < 2 ^ 64 := Nat.pow_lt_pow_right (by omega) hr
  exact this

/-- word i without its bits below t -/
def wordFrom (p : Int → Bool) (i t : Nat) : Nat := bitsTo (fun b => decide (t ≤ b) && p ((64 * i + b : Nat) : Int)) 64
theorem wordFrom_zero (p : Int → Bool) (i : Nat) : wordFrom p i 0 = wordOf p i := bitsTo_congr fun j _ => by simp
theorem wordFrom_lt (p : Int → Bool) (i t : Nat) : wordFrom p i t < 18446744073709551616 := bitsTo_lt _ 64
theorem testBit_wordFrom (p : Int → Bool) (i t j : Nat) : (wordFrom p i t).testBit j = (decide (j < 64) && (decide (t ≤ j) && p ((64 * i + j : Nat) : Int))) := testBit_bitsTo _ _ _

theorem and_pred_testBit (m c j : Nat) : ((2 ^ c * (2 * m + 1)) &&& (2 ^ c * (2 * m + 1) - 1)).testBit j = ((2 ^ c * (2 * m + 1)).testBit j && decide (j ≠ c)) := by
  have hp : 0 < 2 ^ c := Nat.two_pow_pos c
  have e1 : 2 ^ c * (2 * m + 1) = 2 ^ (c + 1) * m + 2 ^ c := by
    rw [Nat.pow_succ, Nat.mul_add, Nat.mul_one, Nat.mul_assoc]
  have hlt : 2 ^ c < 2 ^ (c + 1) := Nat.pow_lt_pow_right (by omega) (by omega)
  have e2 : 2 ^ c * (2 * m + 1) - 1 = 2 ^ (c + 1) * m + (2 ^ c - 1) := by rw [e1]; omega
  rw [Nat.testBit_and, e2, e1, Nat.testBit_two_pow_mul_add _ hlt, Nat.testBit_two_pow_mul_add _ (show 2 ^ c - 1 < 2 ^ (c + 1) by omega)]
  by_cases hj : j < c + 1
  · rw [if_pos hj, if_pos hj, Nat.testBit_two_pow, Nat.testBit_two_pow_sub_one]
    by_cases hjc : j = c
    · subst hjc; simp
    · have : ¬ c = j := fun e => hjc e.symm
      simp [this]
  · rw [if_neg hj, if_neg hj]
    have : j ≠ c := by omega
    simp [this]

/-- what the lowest bit of the rest of a word tells -/
theorem wordFrom_next {p : Int → Bool} {i t : Nat} (h : wordFrom p i t ≠ 0) :
    Lib.ctz 64 (wordFrom p i t) < 64 ∧ t ≤ Lib.ctz 64 (wordFrom p i t) ∧ p ((64 * i + Lib.ctz 64 (wordFrom p i t) : Nat) : Int) = true ∧
    (∀ b, t ≤ b → b < Lib.ctz 64 (wordFrom p i t) → p ((64 * i + b : Nat) : Int) = false) ∧
    wordFrom p i t &&& (wordFrom p i t - 1) = wordFrom p i (Lib.ctz 64 (wordFrom p i t) + 1) := by
  obtain ⟨m, hm, hc⟩ := Lib.ctzFrom_spec 64 (wordFrom p i t) (by omega) (wordFrom_lt p i t)
  have hz : Lib.ctz 64 (wordFrom p i t) = Lib.ctzFrom 64 (wordFrom p i t) := by unfold Lib.ctz; rw [if_neg h]
  rw [hz]
  generalize Lib.ctzFrom 64 (wordFrom p i t) = c at *
  have hlt : 2 ^ c < 2 ^ (c + 1) := Nat.pow_lt_pow_right (by omega) (by omega)
  have bit : ∀ j, j ≤ c → (wordFrom p i t).testBit j = decide (j = c) := fun j hj => by
    have e1 : wordFrom p i t = 2 ^ (c + 1) * m + 2 ^ c := by
      rw [hm, Nat.pow_succ, Nat.mul_add, Nat.mul_one, Nat.mul_assoc]
    rw [e1, Nat.testBit_two_pow_mul_add _ hlt, if_pos (by omega), Nat.testBit_two_pow]
    by_cases hjc : j = c
    · subst hjc; simp
    · have : ¬ c = j := fun e => hjc e.symm
      simp [hjc, this]
  have hbc := bit c (Nat.le_refl _)
  rw [testBit_wordFrom] at hbc
  have hbc' : (decide (c < 64) && (decide (t ≤ c) && p ((64 * i + c : Nat) : Int))) = true := by rw [hbc]; simp
  simp only [Bool.and_eq_true, decide_eq_true_eq] at hbc'
  refine ⟨hc, hbc'.2.1, hbc'.2.2, ?_, ?_⟩
  · intro b hb1 hb2
    have := bit b (by omega)
    rw [testBit_wordFrom] at this
    have h64 : b < 64 := by omega
    have hne : b ≠ c := by omega
    simpa [h64, hb1, hne] using this
  · refine Nat.eq_of_testBit_eq fun j => ?_
    have e := and_pred_testBit m c j
    rw [← hm] at e
    rw [e, testBit_wordFrom, testBit_wordFrom]
    by_cases hj : j ≤ c
    · have hb := bit j hj
      rw [testBit_wordFrom] at hb
      rw [hb]
      have h2 : ¬ c + 1 ≤ j := by omega
      by_cases hjc : j = c
      · simp [hjc]; omega
      · simp [hjc, h2]
    · have h1 : t ≤ j := by omega
      have h2 : c + 1 ≤ j := by omega
      have h3 : j ≠ c := by omega
      simp [h1, h2, h3]

theorem pickN_skip (p : Int → Bool) (m : Nat) : ∀ (d k : Nat), (∀ b, k ≤ b → b < k + d → p ((m + b : Nat) : Int) = false) → pickN p m (k + d) = pickN p m k
  | 0, k, _ => rfl
  | d + 1, k, h => by
    rw [← Nat.add_assoc, pickN_snoc, h (k + d) (by omega) (by omega), pickN_skip p m d k fun b h1 h2 => h b h1 (by omega)]
    simp
theorem wordFrom_done {p : Int → Bool} {i t : Nat} (ht : t ≤ 64) (h : wordFrom p i t = 0) : pickN p 0 (64 * i + t) = pickN p 0 (64 * (i + 1)) := by
  have e : 64 * (i + 1) = (64 * i + t) + (64 - t) := by omega
  rw [e]
  refine (pickN_skip p 0 (64 - t) (64 * i + t) ?_).symm
  intro b h1 h2
  have := bitsTo_zero.1 h (b - 64 * i) (by omega)
  have h3 : t ≤ b - 64 * i := by omega
  have h4 : 64 * i + (b - 64 * i) = 0 + b := by omega
  rw [h4] at this
  simpa [h3] using this
theorem wordFrom_take {p : Int → Bool} {i t : Nat} (h : wordFrom p i t ≠ 0) :
    pickN p 0 (64 * i + (Lib.ctz 64 (wordFrom p i t) + 1)) = pickN p 0 (64 * i + t) ++ [((64 * i + Lib.ctz 64 (wordFrom p i t) : Nat) : Int)] := by
  obtain ⟨h1, h2, h3, h4, -⟩ := wordFrom_next h
  generalize Lib.ctz 64 (wordFrom p i t) = c at *
  rw [← Nat.add_assoc, pickN_snoc, Nat.zero_add, if_pos h3]
  have e : 64 * i + c = (64 * i + t) + (c - t) := by omega
  conv => lhs; lhs; rw [e]
  refine congrArg (· ++ [((64 * i + c : Nat) : Int)]) (pickN_skip p 0 (c - t) (64 * i + t) ?_)
  intro b g1 g2
  have := h4 (b - 64 * i) (by omega) (by omega)
  have h5 : 64 * i + (b - 64 * i) = 0 + b := by omega
  rwa [h5] at this

end Go.Proofs.YtchogijdkagiiaaGreatDoor

namespace Go.Proofs.YtchogijdkagiiaaGreatDoor
open Go.RowKit

def U64 (a : Nat) : Prop := a < 18446744073709551616
theorem and64 {a b : Nat} (ha : U64 a) (hb : U64 b) : bits .and .u64 (a : Int) (b : Int) = ((a &&& b : Nat) : Int) := u64_and_nat a b ha hb
/-- the complement of a word -/
def neg64 (b : Nat) : Nat := 18446744073709551615 - b
theorem andNot64 {a b : Nat} (ha : U64 a) (hb : U64 b) : bits .andNot .u64 (a : Int) (b : Int) = ((a &&& neg64 b : Nat) : Int) := u64_andNot_nat a b ha hb


set_option maxHeartbeats 1000000 in
theorem wmeet_any (a0 a1 a2 a3 b0 b1 b2 b3 : Nat) (w : World) (ha0 : U64 a0) (ha1 : U64 a1) (ha2 : U64 a2) (ha3 : U64 a3) (hb0 : U64 b0) (hb1 : U64 b1) (hb2 : U64 b2) (hb3 : U64 b3) :
    Calls Tryz.prog 38 #[.agg #[.int .u64 a0, .int .u64 a1, .int .u64 a2, .int .u64 a3], .agg #[.int .u64 b0, .int .u64 b1, .int .u64 b2, .int .u64 b3]] w fun e w' =>
      e = .returned (.agg #[.int .u64 (a0 &&& b0 : Nat), .int .u64 (a1 &&& b1 : Nat), .int .u64 (a2 &&& b2 : Nat), .int .u64 (a3 &&& b3 : Nat)]) ∧ Below w.heap.size w w' := by
  have e0 := and64 ha0 hb0
  have e1 := and64 ha1 hb1
  have e2 := and64 ha2 hb2
  have e3 := and64 ha3 hb3
  clear ha0 ha1 ha2 ha3 hb0 hb1 hb2 hb3
  go_enter Tryz.func38, Tryz.ntmps38
  go_wp2
  refine wp_loop_rounds 6 ?_
  rw [rounds_succ]; go_wp2
  go_region
  go_wp2
  rw [rounds_succ]; go_wp2
  go_region
  go_wp2
  rw [rounds_succ]; go_wp2
  go_region
  go_wp2
  rw [rounds_succ]; go_wp2
  go_region
  go_wp2
  rw [rounds_succ]; go_wp2
  refine bodyPost_ret (v := .agg #[.int .u64 (a0 &&& b0 : Nat), .int .u64 (a1 &&& b1 : Nat), .int .u64 (a2 &&& b2 : Nat), .int .u64 (a3 &&& b3 : Nat)]) (by simp [results, Tryz.results38, go_sem]) rfl ⟨rfl, ?_⟩
  go_grown

set_option maxHeartbeats 1000000 in
theorem wless_any (a0 a1 a2 a3 b0 b1 b2 b3 : Nat) (w : World) (ha0 : U64 a0) (ha1 : U64 a1) (ha2 : U64 a2) (ha3 : U64 a3) (hb0 : U64 b0) (hb1 : U64 b1) (hb2 : U64 b2) (hb3 : U64 b3) :
    Calls Tryz.prog 36 #[.agg #[.int .u64 a0, .int .u64 a1, .int .u64 a2, .int .u64 a3], .agg #[.int .u64 b0, .int .u64 b1, .int .u64 b2, .int .u64 b3]] w fun e w' =>
      e = .returned (.agg #[.int .u64 (a0 &&& neg64 b0 : Nat), .int .u64 (a1 &&& neg64 b1 : Nat), .int .u64 (a2 &&& neg64 b2 : Nat), .int .u64 (a3 &&& neg64 b3 : Nat)]) ∧ Below w.heap.size w w' := by
  have e0 := andNot64 ha0 hb0
  have e1 := andNot64 ha1 hb1
  have e2 := andNot64 ha2 hb2
  have e3 := andNot64 ha3 hb3
  clear ha0 ha1 ha2 ha3 hb0 hb1 hb2 hb3
  go_enter Tryz.func36, Tryz.ntmps36
  go_wp2
  refine wp_loop_rounds 6 ?_
  rw [rounds_succ]; go_wp2
  go_region
  go_wp2
  rw [rounds_succ]; go_wp2
  go_region
  go_wp2
  rw [rounds_succ]; go_wp2
  go_region
  go_wp2
  rw [rounds_succ]; go_wp2
  go_region
  go_wp2
  rw [rounds_succ]; go_wp2
  refine bodyPost_ret (v := .agg #[.int .u64 (a0 &&& neg64 b0 : Nat), .int .u64 (a1 &&& neg64 b1 : Nat), .int .u64 (a2 &&& neg64 b2 : Nat), .int .u64 (a3 &&& neg64 b3 : Nat)]) (by simp [results, Tryz.results36, go_sem]) rfl ⟨rfl, ?_⟩
  go_grown

end Go.Proofs.YtchogijdkagiiaaGreatDoor

namespace Go.Proofs.YtchogijdkagiiaaGreatDoor
open Go.RowKit

theorem alloc_drewN (w : World) (n : Nat) (o : Obj) : (w.drewN n).alloc o = (w.alloc o).drewN n := rfl
theorem setCell_drewN (w : World) (n : Nat) (a : Addr) (v : Value) : (w.drewN n).setCell a v = (w.setCell a v).drewN n := rfl
theorem below_drewN {B : Nat} {a w : World} (h : Below B a w) (n : Nat) : Below B a (w.drewN n) := ⟨h.os, h.tape, h.output, h.size, h.block⟩
attribute [local go_sem] alloc_drewN setCell_drewN

theorem and127 (X : Int) : (bits .and .i64 X 127).toNat ≤ 127 ∧ bits .and .i64 X 127 = ((bits .and .i64 X 127).toNat : Int) := by
  have h : bits .and .i64 X 127 = IntKind.i64.wrap ((BitVec.ofInt 64 X &&& BitVec.ofInt 64 127).toNat : Int) := rfl
  have hle : (BitVec.ofInt 64 X &&& BitVec.ofInt 64 127).toNat ≤ 127 := by
    rw [BitVec.toNat_and]
    exact Nat.le_trans Nat.and_le_right (by decide)
  rw [h, IntKind.wrap_i64]
  omega

set_option maxHeartbeats 1000000 in
theorem count_any (a : Nat) (w : World) :
    Calls Tryz.prog 108 #[.int .u64 a] w fun e w' => (∃ n : Nat, n ≤ 127 ∧ e = .returned (.int .i64 n)) ∧ w = w' := by
  go_enter Tryz.func108, Tryz.ntmps108
  go_wp2
  go_ret
  exact ⟨⟨_, (and127 _).1, ret_int (and127 _).2⟩, rfl⟩

theorem run_words_eq (a0 a1 a2 a3 : Nat) (W : World) :
    (Op.equalIn 10000 69 (.agg #[.int .u64 a0, .int .u64 a1, .int .u64 a2, .int .u64 a3]) (.agg #[.int .u64 0, .int .u64 0, .int .u64 0, .int .u64 0])).run Tryz.prog W = .ok (decide (a0 = 0 ∧ a1 = 0 ∧ a2 = 0 ∧ a3 = 0)) W := by
  obtain ⟨i, hi⟩ : ∃ i, Tryz.prog.info? 67 = some i := by
    cases h : Tryz.prog.info? 67 with
    | none => exact absurd (show (Tryz.prog.info? 67).isSome = true by kernel_rfl) (by rw [h]; simp)
    | some i => exact ⟨i, rfl⟩
  have hc : Tryz.prog.cellsOf 67 = 1 := by kernel_rfl
  rw [show (10000 : Nat) = 9999 + 1 from rfl, run_equalIn_array W 9999 _ _ Tryz.underlying69 hi, hc]
  have hu := Tryz.underlying67
  have hs := fun a => run_equalIn_int (P := Tryz.prog) W 9998 67 .u64 .u64 a 0 hu
  rw [show List.range 4 = [0, 1, 2, 3] from rfl]
  by_cases h0 : a0 = 0 <;> by_cases h1 : a1 = 0 <;> by_cases h2 : a2 = 0 <;> by_cases h3 : a3 = 0 <;>
    simp [Op.eqItems, part, isAgg, run_underlying hu, hs, h0, h1, h2, h3]

set_option maxHeartbeats 1000000 in
theorem empty_anyP (a0 a1 a2 a3 : Nat) (w : World) :
    Calls Tryz.prog 37 #[.agg #[.int .u64 a0, .int .u64 a1, .int .u64 a2, .int .u64 a3]] w fun e w' =>
      e = .returned (.bool (decide (a0 = 0 ∧ a1 = 0 ∧ a2 = 0 ∧ a3 = 0))) ∧ Below w.heap.size w w' := by
  have H := run_words_eq a0 a1 a2 a3
  generalize decide (a0 = 0 ∧ a1 = 0 ∧ a2 = 0 ∧ a3 = 0) = z at *
  go_enter Tryz.func37, Tryz.ntmps37
  go_wp2
  go_ret
  exact ⟨rfl, by go_grown⟩
set_option maxHeartbeats 1000000 in
theorem empty_anyA (a0 a1 a2 a3 : Nat) (w : World) :
    Calls Tryz.prog 37 #[.agg #[.int .u64 a0, .int .u64 a1, .int .u64 a2, .int .u64 a3]] w fun e w' =>
      e = .returned (.bool (decide (a0 = 0 ∧ a1 = 0 ∧ a2 = 0 ∧ a3 = 0))) ∧ Below w.heap.size w w' := by
  have H := run_words_eq a0 a1 a2 a3
  generalize decide (a0 = 0 ∧ a1 = 0 ∧ a2 = 0 ∧ a3 = 0) = z at *
  go_enter Tryz.func37, Tryz.ntmps37
  go_wp2
  go_ret
  exact ⟨rfl, by go_grown⟩

theorem put64 {a r : Nat} (ha : U64 a) (hr : r < 64) : bits .or .u64 (a : Int) (IntKind.u64.wrap (2 ^ r)) = ((a ||| 2 ^ r : Nat) : Int) := by
  have h2 := two_pow_small r hr
  have e : IntKind.u64.wrap (2 ^ r) = ((2 ^ r : Nat) : Int) := by
    rw [IntKind.wrap_u64]
    have : ((2 : Int) ^ r) = ((2 ^ r : Nat) : Int) := by simp
    rw [this]
    generalize (2 ^ r : Nat) = y at *
    omega
  rw [e]
  exact u64_or_nat a (2 ^ r) ha h2

theorem four_lt {p : Int → Bool} {a0 a1 a2 a3 : Nat} (h : Four p a0 a1 a2 a3) : U64 a0 ∧ U64 a1 ∧ U64 a2 ∧ U64 a3 := by
  obtain ⟨rfl, rfl, rfl, rfl⟩ := h
  exact ⟨wordOf_lt _ _, wordOf_lt _ _, wordOf_lt _ _, wordOf_lt _ _⟩
theorem inB_take (xs : List Int) (k : Nat) (hk : k < xs.length) (x : Nat) (hx : xs.getD k 0 = x) : inB (xs.take (k + 1)) = fun n => inB (xs.take k) n || n == (x : Int) := by
  funext n
  unfold inB
  have e : xs.take (k + 1) = xs.take k ++ [(x : Int)] := by
    rw [List.take_succ_eq_append_getElem hk, ← hx]; simp [List.getD, hk]
  rw [e, Bool.eq_iff_iff]
  simp
theorem inB_take_zero (xs : List Int) : Four (inB (xs.take 0)) 0 0 0 0 := by
  have h : ∀ i, wordOf (inB (xs.take 0)) i = 0 := fun i => bitsTo_zero.2 fun j _ => by simp [inB]
  exact ⟨(h 0).symm, (h 1).symm, (h 2).symm, (h 3).symm⟩
theorem four_put0 {xs : List Int} {k x r a0 a1 a2 a3 : Nat} (hk : k < xs.length) (hx : xs.getD k 0 = x) (h : Four (inB (xs.take k)) a0 a1 a2 a3) (hr : r < 64) (hm : x = 64 * 0 + r) : Four (inB (xs.take (k + 1))) (a0 ||| 2 ^ r) a1 a2 a3 := by
  rw [inB_take xs k hk x hx]
  obtain ⟨rfl, rfl, rfl, rfl⟩ := h
  exact ⟨by rw [wordOf_put _ x 0 r hr (by omega)], (wordOf_put_other _ x 1 (by omega)).symm, (wordOf_put_other _ x 2 (by omega)).symm, (wordOf_put_other _ x 3 (by omega)).symm⟩
theorem four_put1 {xs : List Int} {k x r a0 a1 a2 a3 : Nat} (hk : k < xs.length) (hx : xs.getD k 0 = x) (h : Four (inB (xs.take k)) a0 a1 a2 a3) (hr : r < 64) (hm : x = 64 * 1 + r) : Four (inB (xs.take (k + 1))) a0 (a1 ||| 2 ^ r) a2 a3 := by
  rw [inB_take xs k hk x hx]
  obtain ⟨rfl, rfl, rfl, rfl⟩ := h
  exact ⟨(wordOf_put_other _ x 0 (by omega)).symm, by rw [wordOf_put _ x 1 r hr (by omega)], (wordOf_put_other _ x 2 (by omega)).symm, (wordOf_put_other _ x 3 (by omega)).symm⟩
theorem four_put2 {xs : List Int} {k x r a0 a1 a2 a3 : Nat} (hk : k < xs.length) (hx : xs.getD k 0 = x) (h : Four (inB (xs.take k)) a0 a1 a2 a3) (hr : r < 64) (hm : x = 64 * 2 + r) : Four (inB (xs.take (k + 1))) a0 a1 (a2 ||| 2 ^ r) a3 := by
  rw [inB_take xs k hk x hx]
  obtain ⟨rfl, rfl, rfl, rfl⟩ := h
  exact ⟨(wordOf_put_other _ x 0 (by omega)).symm, (wordOf_put_other _ x 1 (by omega)).symm, by rw [wordOf_put _ x 2 r hr (by omega)], (wordOf_put_other _ x 3 (by omega)).symm⟩
theorem four_put3 {xs : List Int} {k x r a0 a1 a2 a3 : Nat} (hk : k < xs.length) (hx : xs.getD k 0 = x) (h : Four (inB (xs.take k)) a0 a1 a2 a3) (hr : r < 64) (hm : x = 64 * 3 + r) : Four (inB (xs.take (k + 1))) a0 a1 a2 (a3 ||| 2 ^ r) := by
  rw [inB_take xs k hk x hx]
  obtain ⟨rfl, rfl, rfl, rfl⟩ := h
  exact ⟨(wordOf_put_other _ x 0 (by omega)).symm, (wordOf_put_other _ x 1 (by omega)).symm, (wordOf_put_other _ x 2 (by omega)).symm, by rw [wordOf_put _ x 3 r hr (by omega)]⟩

set_option maxHeartbeats 2000000 in
theorem pack_yes (A : Option Addr) (n c : Nat) (xs : List Int) (w : World) (hr : RI w w.heap.size A n xs) (hn : n ≤ maxLen) (hset : rightB xs = true) :
    Calls Tryz.prog 59 #[.slice A n c] w fun e w' => (∃ a0 a1 a2 a3 : Nat, Four (inB xs) a0 a1 a2 a3 ∧ e = .returned (.tuple #[.agg #[.int .u64 a0, .int .u64 a1, .int .u64 a2, .int .u64 a3], .bool true])) ∧ Below w.heap.size w w' := by
  have HS := Lib.hid hset
  clear hset
  have HLEN := Lib.hid hr.1
  go_enter Tryz.func59, Tryz.ntmps59
  go_wp2_with (go_at_call 62; refine (right_any _ _ _ xs _ w.heap.size (hr.below (by go_grown)) hn).mono ?_; rintro e w' ⟨rfl, rfl⟩; rw [HS.out])
  unfold maxLen at hn
  go_loopw [13] (fun i wr => ∃ k : Nat, k ≤ n ∧ i = .int .i64 k ∧ ∃ a0 a1 a2 a3 : Nat, Four (inB (xs.take k)) a0 a1 a2 a3 ∧ ∃ q, wr = ((w.alloc (.cells #[.int .u64 0, .int .u64 0, .int .u64 0, .int .u64 0] 69)).alloc (.cells #[.int .u64 a0, .int .u64 a1, .int .u64 a2, .int .u64 a3] 69)).drewN q)
    (fun i _ => n - (intOf i).toNat)
  case atStart => exact ⟨0, Nat.zero_le _, rfl, 0, 0, 0, 0, inB_take_zero xs, 0, rfl⟩
  case round =>
    obtain ⟨k, hk, rfl, a0, a1, a2, a3, h4, q, rfl⟩ := hrel
    have H4 := Lib.hid h4
    clear h4
    by_cases hlt : k < n
    · obtain ⟨b, off, rfl, hb, hc⟩ := hr.2 (by omega)
      have hck := hc k hlt
      clear hc hr
      have HKL : Hid (k < xs.length) := Lib.hid (by have := HLEN.out; omega)
      have hb0 := right_mem HS.out (xs.getD k 0) (by have := HKL.out; simp [List.getD, this])
      obtain ⟨x, hx⟩ : ∃ x : Nat, xs.getD k 0 = x := ⟨(xs.getD k 0).toNat, by omega⟩
      have HX := Lib.hid hx
      rw [hx] at hck hb0
      clear hx
      have hx255 : x ≤ 255 := by omega
      clear hb0
      obtain ⟨r, hr⟩ : ∃ r, r = x % 64 := ⟨_, rfl⟩
      have hr64 : r < 64 := by omega
      have hm : (x : Int) % 64 = (r : Int) := by omega
      have Hr := Lib.hid hr
      clear hr
      have hi : x / 64 = 0 ∨ x / 64 = 1 ∨ x / 64 = 2 ∨ x / 64 = 3 := by omega
      obtain ⟨l0, l1, l2, l3⟩ := four_lt H4.out
      rcases hi with hi | hi | hi | hi
      · have hd : (x : Int) / 64 = 0 := by omega
        have HF := Lib.hid (four_put0 HKL.out HX.out H4.out hr64 (by have := Hr.out; omega))
        have hput := put64 l0 hr64
        clear hi l0 l1 l2 l3
        go_wp2
        go_region
        go_wp2
        go_roundw
        case rel => exact ⟨k + 1, by omega, by go_num, _, _, _, _, HF.out, q + 1, rfl⟩
        case measure => simp [intOf]; omega
      · have hd : (x : Int) / 64 = 1 := by omega
        have HF := Lib.hid (four_put1 HKL.out HX.out H4.out hr64 (by have := Hr.out; omega))
        have hput := put64 l1 hr64
        clear hi l0 l1 l2 l3
        go_wp2
        go_region
        go_wp2
        go_roundw
        case rel => exact ⟨k + 1, by omega, by go_num, _, _, _, _, HF.out, q + 1, rfl⟩
        case measure => simp [intOf]; omega
      · have hd : (x : Int) / 64 = 2 := by omega
        have HF := Lib.hid (four_put2 HKL.out HX.out H4.out hr64 (by have := Hr.out; omega))
        have hput := put64 l2 hr64
        clear hi l0 l1 l2 l3
        go_wp2
        go_region
        go_wp2
        go_roundw
        case rel => exact ⟨k + 1, by omega, by go_num, _, _, _, _, HF.out, q + 1, rfl⟩
        case measure => simp [intOf]; omega
      · have hd : (x : Int) / 64 = 3 := by omega
        have HF := Lib.hid (four_put3 HKL.out HX.out H4.out hr64 (by have := Hr.out; omega))
        have hput := put64 l3 hr64
        clear hi l0 l1 l2 l3
        go_wp2
        go_region
        go_wp2
        go_roundw
        case rel => exact ⟨k + 1, by omega, by go_num, _, _, _, _, HF.out, q + 1, rfl⟩
        case measure => simp [intOf]; omega
    · have hkn : k = n := by omega
      subst hkn
      go_wp2
      refine bodyPost_ret (v := .tuple #[.agg #[.int .u64 a0, .int .u64 a1, .int .u64 a2, .int .u64 a3], .bool true]) (by simp [results, Tryz.results59, go_sem]) rfl ⟨⟨a0, a1, a2, a3, ?_, rfl⟩, ?_⟩
      · have h := H4.out
        rwa [List.take_of_length_le (by have := HLEN.out; omega)] at h
      · exact below_drewN (by go_grown) _

set_option maxHeartbeats 1000000 in
theorem pack_no (A : Option Addr) (n c : Nat) (xs : List Int) (w : World) (hr : RI w w.heap.size A n xs) (hn : n ≤ maxLen) (hset : rightB xs = false) :
    Calls Tryz.prog 59 #[.slice A n c] w fun e w' => e = .returned (.tuple #[.agg #[.int .u64 0, .int .u64 0, .int .u64 0, .int .u64 0], .bool false]) ∧ Below w.heap.size w w' := by
  have HS := Lib.hid hset
  clear hset
  go_enter Tryz.func59, Tryz.ntmps59
  go_wp2_with (go_at_call 62; refine (right_any _ _ _ xs _ w.heap.size (hr.below (by go_grown)) hn).mono ?_; rintro e w' ⟨rfl, rfl⟩; rw [HS.out])
  refine bodyPost_ret (v := .tuple #[.agg #[.int .u64 0, .int .u64 0, .int .u64 0, .int .u64 0], .bool false]) (by simp [results, Tryz.results59, go_sem]) rfl ⟨rfl, by go_grown⟩

/-- 'some words, which are the set's if it is one', kept from the walk -/
def IsPack (xs : List Int) (a0 a1 a2 a3 : Nat) : Prop := rightB xs = true → Four (inB xs) a0 a1 a2 a3
def PackPost (xs : List Int) (B : Nat) (w : World) (e : Ending) (w' : World) : Prop :=
  (∃ a0 a1 a2 a3 : Nat, IsPack xs a0 a1 a2 a3 ∧ e = .returned (.tuple #[.agg #[.int .u64 a0, .int .u64 a1, .int .u64 a2, .int .u64 a3], .bool (rightB xs)])) ∧ Below B w w'
theorem pack_any (A : Option Addr) (n c : Nat) (xs : List Int) (w : World) (hr : RI w w.heap.size A n xs) (hn : n ≤ maxLen) :
    Calls Tryz.prog 59 #[.slice A n c] w (PackPost xs w.heap.size w) := by
  cases h : rightB xs with
  | false => exact (pack_no A n c xs w hr hn h).mono fun e w' ⟨he, hb⟩ => ⟨⟨0, 0, 0, 0, fun hh => (by rw [h] at hh; cases hh), by rw [he, h]; rfl⟩, hb⟩
  | true => exact (pack_yes A n c xs w hr hn h).mono fun e w' ⟨⟨a0, a1, a2, a3, h4, he⟩, hb⟩ => ⟨⟨a0, a1, a2, a3, fun _ => h4, by rw [he, h]⟩, hb⟩

end Go.Proofs.YtchogijdkagiiaaGreatDoor

namespace Go.Proofs
open Go.Shelf
open Go.RowKit
def Tryz.tzRen : Go.Shelf.Ren := ⟨fun | 29 => 109 | n => n, fun | 22 => 67 | 3 => 3 | 4 => 4 | 25 => 103 | 54 => 148 | 0 => 0 | 5 => 5 | n => n, fun | 1 => 0 | n => n⟩
theorem Tryz.tzLays : Go.Proofs.Lays7.n29 Tryz.prog Tryz.tzRen := {
  mixed := by kernel_rfl
  f29 := Tryz.func109.trans (congrArg some (by kernel_rfl))
  t0 := Tryz.underlying0
  a0 := Tryz.isAgg0
  z0 := Tryz.sizeOf0
  v0 := Tryz.zeroValue0
  i0 := by kernel_rfl
  t3 := Tryz.underlying3
  a3 := Tryz.isAgg3
  z3 := Tryz.sizeOf3
  v3 := Tryz.zeroValue3
  i3 := by kernel_rfl
  t4 := Tryz.underlying4
  a4 := Tryz.isAgg4
  z4 := Tryz.sizeOf4
  v4 := Tryz.zeroValue4
  i4 := by kernel_rfl
  t5 := Tryz.underlying5
  a5 := Tryz.isAgg5
  z5 := Tryz.sizeOf5
  v5 := Tryz.zeroValue5
  i5 := by kernel_rfl
  t22 := Tryz.underlying67
  a22 := Tryz.isAgg67
  z22 := Tryz.sizeOf67
  v22 := Tryz.zeroValue67
  i22 := by kernel_rfl
  t25 := Tryz.underlying103
  a25 := Tryz.isAgg103
  z25 := Tryz.sizeOf103
  v25 := Tryz.zeroValue103
  i25 := by kernel_rfl
  t54 := Tryz.underlying148
  a54 := Tryz.isAgg148
  z54 := Tryz.sizeOf148
  g1 := by kernel_rfl }
theorem Tryz.tz64 (x : Nat) (hx : x < 18446744073709551616) (w : World) (hT : x ≠ 0 → TabAt 0 Lib.deBruijn64tab w) :
    Calls Tryz.prog 109 #[.int .u64 x] w fun e w' => e = .returned (.int .i64 (Lib.ctz 64 x)) ∧ w' = w := Any7.bits_TrailingZeros64 Tryz.tzLays x hx w hT
end Go.Proofs

namespace Go.Proofs.YtchogijdkagiiaaGreatDoor
open Go.RowKit
open Go.Shelf

theorem tz_any (x : Nat) (hx : U64 x) (w : World) (hT : TabAt 0 Lib.deBruijn64tab w) :
    Calls Tryz.prog 109 #[.int .u64 x] w fun e w' => e = .returned (.int .i64 (Lib.ctz 64 x)) ∧ w = w' :=
  (Tryz.tz64 x hx w (fun _ => hT)).mono fun _ _ ⟨h1, h2⟩ => ⟨h1, h2.symm⟩
theorem tab_below {B : Nat} {w w' : World} (h : TabAt 0 Lib.deBruijn64tab w) (hb : Below B w w') (hB : 0 < B) : TabAt 0 Lib.deBruijn64tab w' := fun j hj =>
  (hb.cell (p := ⟨0, j, none⟩) hB).trans (h j hj)
theorem pred64 {x : Nat} (hx : U64 x) (h0 : 0 < x) : bits .and .u64 (x : Int) (IntKind.u64.wrap ((x : Int) - 1)) = ((x &&& (x - 1) : Nat) : Int) := by
  have hx' : x < 18446744073709551616 := hx
  have e : IntKind.u64.wrap ((x : Int) - 1) = ((x - 1 : Nat) : Int) := by rw [IntKind.wrap_u64]; omega
  rw [e]
  exact u64_and_nat x (x - 1) hx (by omega)

/-- where the inner loop stands in word i -/
def ListRel (p : Int → Bool) (w : World) (B : Nat) (i : Nat) (v x : Value) (wr : World) : Prop :=
  ∃ t : Nat, t ≤ 64 ∧ x = .int .u64 (wordFrom p i t) ∧ wr.ownsRow B 3 1 v (pickN p 0 (64 * i + t)).length ((pickN p 0 (64 * i + t)).map (Value.int .i64)) ∧ Below B w wr

theorem pickN_len (p : Int → Bool) (k : Nat) : (pickN p 0 k).length ≤ k := length_pickN p k 0

theorem run_ix0 (a0 a1 a2 a3 : Nat) (W : World) : (Instr.index 69 (.agg #[.int .u64 a0, .int .u64 a1, .int .u64 a2, .int .u64 a3]) (.int .i64 0)).run Tryz.prog W = .ok (.int .u64 a0) W := by
  simp [Instr.index, run_underlying Tryz.underlying69, asIntOf, part, isAgg, run_underlying Tryz.underlying67, Tryz.sizeOf67]
theorem run_ix1 (a0 a1 a2 a3 : Nat) (W : World) : (Instr.index 69 (.agg #[.int .u64 a0, .int .u64 a1, .int .u64 a2, .int .u64 a3]) (.int .i64 1)).run Tryz.prog W = .ok (.int .u64 a1) W := by
  simp [Instr.index, run_underlying Tryz.underlying69, asIntOf, part, isAgg, run_underlying Tryz.underlying67, Tryz.sizeOf67]
theorem run_ix2 (a0 a1 a2 a3 : Nat) (W : World) : (Instr.index 69 (.agg #[.int .u64 a0, .int .u64 a1, .int .u64 a2, .int .u64 a3]) (.int .i64 2)).run Tryz.prog W = .ok (.int .u64 a2) W := by
  simp [Instr.index, run_underlying Tryz.underlying69, asIntOf, part, isAgg, run_underlying Tryz.underlying67, Tryz.sizeOf67]
theorem run_ix3 (a0 a1 a2 a3 : Nat) (W : World) : (Instr.index 69 (.agg #[.int .u64 a0, .int .u64 a1, .int .u64 a2, .int .u64 a3]) (.int .i64 3)).run Tryz.prog W = .ok (.int .u64 a3) W := by
  simp [Instr.index, run_underlying Tryz.underlying69, asIntOf, part, isAgg, run_underlying Tryz.underlying67, Tryz.sizeOf67]

theorem run_ixk {p : Int → Bool} {a0 a1 a2 a3 : Nat} (h : Four p a0 a1 a2 a3) (k : Nat) (hk : k < 4) (W : World) :
    (Instr.index 69 (.agg #[.int .u64 a0, .int .u64 a1, .int .u64 a2, .int .u64 a3]) (.int .i64 (k : Int))).run Tryz.prog W = .ok (.int .u64 (wordFrom p k 0 : Nat)) W := by
  obtain ⟨rfl, rfl, rfl, rfl⟩ := h
  rw [wordFrom_zero]
  have hk' : k = 0 ∨ k = 1 ∨ k = 2 ∨ k = 3 := by omega
  rcases hk' with rfl | rfl | rfl | rfl
  · exact run_ix0 _ _ _ _ W
  · exact run_ix1 _ _ _ _ W
  · exact run_ix2 _ _ _ _ W
  · exact run_ix3 _ _ _ _ W

/-- what an append leaves of the relation -/
theorem list_step {p : Int → Bool} {w wr w1 : World} {v v' : Value} {k t : Nat} {o : Obj} (hne : wordFrom p k t ≠ 0) (hb : Below w.heap.size w wr)
    (hown : wr.ownsRow w.heap.size 3 1 v (pickN p 0 (64 * k + t)).length ((pickN p 0 (64 * k + t)).map (Value.int .i64)))
    (hown' : w1.ownsRow w.heap.size 3 1 v' ((pickN p 0 (64 * k + t)).length + 1) ((pickN p 0 (64 * k + t)).map (Value.int .i64) ++ [.int .i64 ((k : Int) * 64 + (Lib.ctz 64 (wordFrom p k t) : Nat))])) (hgrow : (wr.alloc o).grownBy w1 v.ownBlock) :
    ListRel p w w.heap.size k v' (.int .u64 (wordFrom p k t &&& (wordFrom p k t - 1) : Nat)) w1 := by
  obtain ⟨h1, h2, h3, h4, h5⟩ := wordFrom_next hne
  have ht := wordFrom_take hne
  refine ⟨Lib.ctz 64 (wordFrom p k t) + 1, by omega, by rw [h5], ?_, ?_⟩
  · rw [ht, List.length_append, List.map_append]
    have e : (((64 * k + Lib.ctz 64 (wordFrom p k t) : Nat) : Int)) = (k : Int) * 64 + (Lib.ctz 64 (wordFrom p k t) : Nat) := by
      generalize Lib.ctz 64 (wordFrom p k t) = c
      omega
    rw [e]
    exact hown'
  · exact (hb.alloc hb.size o).grown hgrow (by have := hb.size; simp; omega) (fun j hj => (hown.lt j hj).1)

set_option maxRecDepth 100000 in
set_option maxHeartbeats 2000000 in
theorem list_any (p : Int → Bool) (a0 a1 a2 a3 : Nat) (h4 : Four p a0 a1 a2 a3) (w : World) (hT : TabAt 0 Lib.deBruijn64tab w) (hB : 0 < w.heap.size) :
    Calls Tryz.prog 87 #[.agg #[.int .u64 a0, .int .u64 a1, .int .u64 a2, .int .u64 a3]] w fun e w' =>
      (∃ v, e = .returned v ∧ w'.ownsRow w.heap.size 3 1 v (pickL p).length ((pickL p).map (Value.int .i64))) ∧ Below w.heap.size w w' := by
  obtain ⟨i0, hi, hz0, hz1, hz2⟩ := info_parts int_info
  have H4 := Lib.hid h4
  have HTAB := Lib.hid hT
  clear h4 hT
  have x0 := run_ix0 a0 a1 a2 a3
  have x1 := run_ix1 a0 a1 a2 a3
  have x2 := run_ix2 a0 a1 a2 a3
  have x3 := run_ix3 a0 a1 a2 a3
  go_enter Tryz.func87, Tryz.ntmps87
  go_wp2
  refine wp_loop_rounds 6 ?_
  rw [rounds_succ]
  go_wp2_with (go_at_call 108; refine (count_any _ _).mono ?_; rintro e w' ⟨⟨n0, hn0, rfl⟩, rfl⟩)
  rw [rounds_succ]
  go_wp2_with (go_at_call 108; refine (count_any _ _).mono ?_; rintro e w' ⟨⟨n1, hn1, rfl⟩, rfl⟩)
  rw [rounds_succ]
  go_wp2_with (go_at_call 108; refine (count_any _ _).mono ?_; rintro e w' ⟨⟨n2, hn2, rfl⟩, rfl⟩)
  rw [rounds_succ]
  go_wp2_with (go_at_call 108; refine (count_any _ _).mono ?_; rintro e w' ⟨⟨n3, hn3, rfl⟩, rfl⟩)
  rw [rounds_succ]
  go_wp2_with (at_make; refine wpList_make_own _ rfl _ _ 23 rfl w.heap.size 3 i0 (.int .i64 0) 1 Tryz.underlying23 hi hz0 hz1 .i64 .i64 _ (n0 + n1 + n2 + n3) rfl rfl (by omega) (by rw [hz2]; omega) (by unfold maxLen; omega) (by simp) ?_; intro w1 hown1 hgrow1; refine Hid.out ?_)
  refine Lib.hid ?_
  have hb1 : Below w.heap.size w w1 := (Below.alloc (Below.refl _ w) (Nat.le_refl _) _).grown hgrow1 (by simp) (fun k hk => by cases hk)
  have hc1 : ∀ i v, (w.alloc (.cells #[.int .u64 a0, .int .u64 a1, .int .u64 a2, .int .u64 a3] 69)).cell? ⟨w.heap.size, i, none⟩ = some v → w1.cell? ⟨w.heap.size, i, none⟩ = some v := fun i v h => hgrow1.cell h (by simp)
  have c0 := hc1 0 (.int .u64 a0) (by go_simp)
  have c1 := hc1 1 (.int .u64 a1) (by go_simp)
  have c2 := hc1 2 (.int .u64 a2) (by go_simp)
  have c3 := hc1 3 (.int .u64 a3) (by go_simp)
  clear hc1 hgrow1 hn0 hn1 hn2 hn3 x0 x1 x2 x3
  go_wp2
  clear c0 c1 c2 c3
  go_loopw [6, 21] (fun v i wr => ∃ k : Nat, k ≤ 4 ∧ i = .int .i64 k ∧ wr.ownsRow w.heap.size 3 1 v (pickN p 0 (64 * k)).length ((pickN p 0 (64 * k)).map (Value.int .i64)) ∧ Below w.heap.size w wr) (fun _ i _ => 4 - (intOf i).toNat)
  case atStart => exact ⟨0, by omega, rfl, by simp at hown1; exact hown1, hb1⟩
  case round =>
    obtain ⟨k, hk, rfl, hownk, hbk⟩ := hrel
    clear hown1 hb1
    by_cases hk4 : k < 4
    · have hix := run_ixk H4.out k hk4
      have hd4 : decide ((k : Int) < 4) = true := by simp; omega
      go_wp2
      clear hix
      go_loopw [6, 8] (fun v x wr => ListRel p w w.heap.size k v x wr) (fun _ x _ => (intOf x).toNat)
      case atStart => exact ⟨0, by omega, rfl, hownk, hbk⟩
      case round =>
        obtain ⟨t, ht, rfl, hown, hb⟩ := hrel
        clear hownk hbk
        by_cases hx : wordFrom p k t = 0
        · have hdone := Lib.hid (wordFrom_done ht hx)
          rw [hx]
          go_wp2
          go_roundw
          case rel => exact ⟨k + 1, by omega, by go_num, by rw [← hdone.out]; exact hown, hb⟩
          case measure => simp [intOf]; omega
        · have HX := Lib.hid hx
          have hx0 : 0 < wordFrom p k t := by omega
          have hlen := pickN_len p (64 * k + t)
          have hc64 := (wordFrom_next hx).1
          have hp := pred64 (wordFrom_lt p k t) hx0
          have hstep := Lib.hid (fun w1 v' o a b => @list_step p w wr w1 _ v' k t o hx hb hown a b)
          clear hx
          have hkk : k < 4 := hk4
          generalize hX : wordFrom p k t = x at *
          have HXX := Lib.hid hX
          clear hX
          have hxu : Hid (U64 x) := Lib.hid (by have := wordFrom_lt p k t; rw [HXX.out] at this; exact this)
          generalize hL : pickN p 0 (64 * k + t) = L at *
          have HL := Lib.hid hL
          clear hL
          go_wp2_with (first
            | (go_at_call 109; refine (tz_any x hxu.out _ (tab_below HTAB.out hb hB)).mono ?_; rintro e w' ⟨rfl, rfl⟩)
            | (at_builtin; refine wpList_append_own _ rfl (.tmp 27) (.tmp 33) 23 rfl w.heap.size 3 i0 (.int .i64 0) 1 8 Tryz.underlying23 hi hz0 hz1 hz2 rfl (by decide) _ _ _ rfl (hown.alloc _) ⟨wr.heap.size, 0, none⟩ 1 1 [.int .i64 ((k : Int) * 64 + (Lib.ctz 64 x : Nat))] rfl rfl ?c1 ?c2 ?c3 ?c4 ?c5 ?_))
          case c1 =>
            intro j u hj
            match j, hj with
            | 0, hj => simp at hj; subst hj; simp [Addr.add]
          case c2 => intro u hu; simp at hu; subst hu; rfl
          case c3 => unfold maxLen; omega
          case c4 => omega
          case c5 => have := hb.size; simp; omega
          intro v' w2 hown' hgrow _
          have R := Lib.hid (hstep.out w2 v' _ hown' hgrow)
          clear hown' hgrow
          go_wp2
          go_roundw
          case rel => exact R.out
          case measure =>
            simp only [intOf]
            have : x &&& (x - 1) ≤ x - 1 := Nat.and_le_right
            simp
            omega
    · have hkn : k = 4 := by omega
      subst hkn
      go_wp2
      go_ret
      exact ⟨⟨_, rfl, hownk⟩, hbk⟩

end Go.Proofs.YtchogijdkagiiaaGreatDoor

namespace Go.Proofs.YtchogijdkagiiaaGreatDoor
open Go.RowKit
open Go.Shelf

def Glob (w : World) : Prop := (w = w)
  ∧ 0 < w.heap.size ∧ TabAt 0 Lib.deBruijn64tab w
theorem Glob.next {w w' : World} (h : Glob w) (hb : Below w.heap.size w w') : Glob w' := by
  have _h := h
  have _hb := hb
  first
    | exact rfl
    | exact ⟨rfl, Nat.lt_of_lt_of_le h.2.1 hb.size, tab_below h.2.2 hb h.2.1⟩
theorem Glob.pos {w : World} (h : Glob w) : 0 < w.heap.size := h.2.1
theorem Glob.tz {w : World} (h : Glob w) : TabAt 0 Lib.deBruijn64tab w := h.2.2

end Go.Proofs.YtchogijdkagiiaaGreatDoor

namespace Go.Proofs.YtchogijdkagiiaaGreatDoor
open Go.RowKit

/-- a holding as an element: four cells, one of them a slice of numbers -/
def EH : Elem Hd := fun w ok x vs => ∃ A m c, vs = [.int .i64 x.id, .slice A m c, .int .i64 x.frm, .int .i64 x.to] ∧ RN EI 1 w ok A m x.things ∧ (A = none → c = 0) ∧ m ≤ c ∧ m ≤ maxLen ∧ (I64 x.id ∧ I64 x.frm ∧ I64 x.to ∧ ∀ n ∈ x.things, I64 n)
theorem eh_steady : Steady EH := ⟨fun ⟨A, m, c, h1, h2, h3⟩ hk ho => ⟨A, m, c, h1, h2.keep ei_steady hk ho, h3⟩⟩
/-- '.slice A n c' reads as the table l, all below block B -/
def RT (w : World) (B : Nat) (A : Option Addr) (n : Nat) (l : Tb) : Prop := RN EH 4 w (Lt B) A n l
/-- a holding by value: what is asked of it -/
structure HAsk (w : World) (A : Option Addr) (m c : Nat) (h : Hd) : Prop where
  reads : RI w w.heap.size A m h.things
  nil : A = none → c = 0
  cap : m ≤ c
  few : m ≤ maxLen
  int : I64 h.id ∧ I64 h.frm ∧ I64 h.to ∧ ∀ n ∈ h.things, I64 n
def hV (h : Hd) (A : Option Addr) (m c : Nat) : Value := .agg #[.int .i64 h.id, .slice A m c, .int .i64 h.frm, .int .i64 h.to]
section
variable {w w' : World} {B n m c : Nat} {A : Option Addr} {l : Tb} {h : Hd}
theorem HAsk.next (h0 : HAsk w A m c h) (hb : Below w.heap.size w w') : HAsk w' A m c h := ⟨h0.reads.next hb, h0.nil, h0.cap, h0.few, h0.int⟩
theorem RT.len (h : RT w B A n l) : l.length = n := h.1
theorem RT.nil : RT w B A 0 [] := RN.nil
theorem RT.next (h : RT w w.heap.size A n l) (hb : Below w.heap.size w w') : RT w' w'.heap.size A n l := RN.next eh_steady h hb
theorem RT.below (h : RT w B A n l) (hb : Below B w w') : RT w' B A n l := RN.below eh_steady h hb
/-- the k-th holding: its cells, and what is asked of it -/
theorem RT.one (h : RT w w.heap.size A n l) {k : Nat} (hk : k < n) : ∃ b off A2 m2 c2, A = some ⟨b, off, none⟩ ∧ b < w.heap.size ∧ w.cell? ⟨b, off + k * 4, none⟩ = some (.int .i64 (l.getD k hd0).id) ∧ w.cell? ⟨b, off + k * 4 + 1, none⟩ = some (.slice A2 m2 c2) ∧ w.cell? ⟨b, off + k * 4 + 2, none⟩ = some (.int .i64 (l.getD k hd0).frm) ∧ w.cell? ⟨b, off + k * 4 + 3, none⟩ = some (.int .i64 (l.getD k hd0).to) ∧ HAsk w A2 m2 c2 (l.getD k hd0) := by
  have hl : k < l.length := by rw [h.1]; exact hk
  obtain ⟨b, off, vs, e, hb, _, hc, A2, m2, c2, hv, hr, h1, h2, h3, h4⟩ := RN.at h (List.getElem?_eq_getElem hl)
  subst hv
  have hg : l.getD k hd0 = l[k] := by rw [List.getD, List.getElem?_eq_getElem hl]; rfl
  rw [hg]
  exact ⟨b, off, A2, m2, c2, e, hb, hc 0 _ rfl, hc 1 _ rfl, hc 2 _ rfl, hc 3 _ rfl, ⟨RN.ri hr, h1, h2, h3, h4⟩⟩
end
/-- the k-th holding, as an element -/
theorem RT.el {w : World} {B n : Nat} {A : Option Addr} {l : Tb} (h : RT w B A n l) {k : Nat} (hk : k < n) : ∃ b off A2 m2 c2, A = some ⟨b, off, none⟩ ∧ b < B ∧ w.cell? ⟨b, off + k * 4, none⟩ = some (.int .i64 (l.getD k hd0).id) ∧ w.cell? ⟨b, off + k * 4 + 1, none⟩ = some (.slice A2 m2 c2) ∧ w.cell? ⟨b, off + k * 4 + 2, none⟩ = some (.int .i64 (l.getD k hd0).frm) ∧ w.cell? ⟨b, off + k * 4 + 3, none⟩ = some (.int .i64 (l.getD k hd0).to) ∧ EH w (Lt B) (l.getD k hd0) [.int .i64 (l.getD k hd0).id, .slice A2 m2 c2, .int .i64 (l.getD k hd0).frm, .int .i64 (l.getD k hd0).to] := by
  have hl : k < l.length := by rw [h.1]; exact hk
  obtain ⟨b, off, vs, e, hb, _, hc, hE⟩ := RN.at h (List.getElem?_eq_getElem hl)
  obtain ⟨A2, m2, c2, hv, h5⟩ := id hE
  subst hv
  have hg : l.getD k hd0 = l[k] := by rw [List.getD, List.getElem?_eq_getElem hl]; rfl
  rw [hg]
  exact ⟨b, off, A2, m2, c2, e, hb, hc 0 _ rfl, hc 1 _ rfl, hc 2 _ rfl, hc 3 _ rfl, hE⟩
theorem held_info : (Tryz.prog.info? 41).map (fun i => (i.zero, i.size, i.bytes)) = some (some (.agg #[.int .i64 0, .slice none 0 0, .int .i64 0, .int .i64 0]), 4, 48) := by kernel_rfl
/-- a block that holds a holding -/
def hO (h : Hd) (A : Option Addr) (m c : Nat) : Obj := .cells #[.int .i64 h.id, .slice A m c, .int .i64 h.frm, .int .i64 h.to] 41
structure BoxH (wr : World) (g : Nat) (h : Hd) (A : Option Addr) (m c : Nat) : Prop where
  lt : g < wr.heap.size
  at' : wr.heap[g]? = some (hO h A m c)
section
variable {wr w' : World} {g m c : Nat} {h : Hd} {A : Option Addr}
theorem BoxH.next (h0 : BoxH wr g h A m c) (hb : Below wr.heap.size wr w') : BoxH w' g h A m c := ⟨Nat.lt_of_lt_of_le h0.lt hb.size, (hb.block _ h0.lt).trans h0.at'⟩
theorem boxH_new (w : World) (h : Hd) (A : Option Addr) (m c : Nat) : BoxH (w.alloc (hO h A m c)) w.heap.size h A m c := ⟨by simp, heap_alloc_new w _⟩
theorem BoxH.c0 (h0 : BoxH wr g h A m c) : wr.cell? ⟨g, 0, none⟩ = some (.int .i64 h.id) := (cell_of_row wr g 0 _ _ (0, 0) h0.at').trans rfl
theorem BoxH.c1 (h0 : BoxH wr g h A m c) : wr.cell? ⟨g, 1, none⟩ = some (.slice A m c) := (cell_of_row wr g 1 _ _ (0, 0) h0.at').trans rfl
theorem BoxH.c2 (h0 : BoxH wr g h A m c) : wr.cell? ⟨g, 2, none⟩ = some (.int .i64 h.frm) := (cell_of_row wr g 2 _ _ (0, 0) h0.at').trans rfl
theorem BoxH.c3 (h0 : BoxH wr g h A m c) : wr.cell? ⟨g, 3, none⟩ = some (.int .i64 h.to) := (cell_of_row wr g 3 _ _ (0, 0) h0.at').trans rfl
theorem BoxH.frozen (h0 : BoxH wr g h A m c) (j : Nat) : wr.frozen? ⟨g, j, none⟩ = false := frozen_of_row wr g j _ _ h0.at'
end

/-- a table and an error's number -/
def TEPost (a : Tb) (er : Int) (w : World) (e : Ending) (w' : World) : Prop :=
  (∃ A1 c1, e = .returned (.tuple #[.slice A1 a.length c1, .int .i64 er]) ∧ RT w' w'.heap.size A1 a.length a ∧ (A1 = none → c1 = 0) ∧ a.length ≤ c1) ∧ Below w.heap.size w w'
theorem tepost_mk {A : Option Addr} {n c : Nat} {l : Tb} {er : Int} {w w' : World} (hr : RT w' w'.heap.size A n l) (hnil : A = none → c = 0) (hnc : n ≤ c) (hb : Below w.heap.size w w') : TEPost l er w (.returned (.tuple #[.slice A n c, .int .i64 er])) w' := by
  have := hr.len
  subst this
  exact ⟨⟨A, c, rfl, hr, hnil, hnc⟩, hb⟩
/-- a table that is asked about -/
structure TAsk (w : World) (A : Option Addr) (n c : Nat) (l : Tb) : Prop where
  reads : RT w w.heap.size A n l
  nil : A = none → c = 0
  cap : n ≤ c
  few : n ≤ maxLen
theorem TAsk.next {w w' : World} {A : Option Addr} {n c : Nat} {l : Tb} (h : TAsk w A n c l) (hb : Below w.heap.size w w') : TAsk w' A n c l := ⟨h.reads.next hb, h.nil, h.cap, h.few⟩
/-- a holding by value, as an element: what it reaches was there -/
theorem HAsk.el {w w' : World} {A : Option Addr} {m c : Nat} {h : Hd} (hh : HAsk w A m c h) (hb : Below w.heap.size w w') : EH w' (Lt w.heap.size) h [.int .i64 h.id, .slice A m c, .int .i64 h.frm, .int .i64 h.to] := by
  refine ⟨A, m, c, rfl, ⟨hh.reads.1, fun h0 => ?_⟩, hh.nil, hh.cap, hh.few, hh.int⟩
  obtain ⟨b, off, e, hlt, hc⟩ := hh.reads.2 h0
  refine ⟨b, off, e, hlt, fun j x hx => ⟨[.int .i64 x], rfl, fun i v hv => ?_, rfl⟩⟩
  have hj := (List.getElem?_eq_some_iff.1 hx).1
  have hi : i = 0 := by have := (List.getElem?_eq_some_iff.1 hv).1; simpa using this
  subst hi
  have hv' : Value.int .i64 x = v := by simpa using hv
  subst hv'
  rw [show off + (j * 1 + 0) = off + j by omega]
  have := (hb.cell (p := ⟨b, off + j, none⟩) hlt).trans (hc j (by have := hh.reads.1; omega))
  rw [this, List.getD, hx]
  rfl

end Go.Proofs.YtchogijdkagiiaaGreatDoor
