/- The program's sets, and the reference's, in one form: what each call answers of lists of int; all that was there is kept. What the program's functions of layer 5 (graph) answer, as one list of contracts: the statements' walks lean on it alone. What the program's functions of layer 7 (spec) answer, as one list of contracts: the statements' walks lean on it alone. Regions that draw their order and whose callees may make memory of their own, but hand back plain values: walked once, in the order of the text, in the class of all worlds that keep what was there. No program's text is walked here. What the program's functions of layer 9 (match) answer, as one list of contracts: the statements' walks lean on it alone. What the program's functions of layer 13 (slot) answer, as one list of contracts: the statements' walks lean on it alone. Written by gen/gen_slot.py. What the program's functions of layer 10 (held) answer, as one list of contracts: the statements' walks lean on it alone. Written by gen/gen_heldface.py. The fixed answers that the statements of layer 13 ask for first, as a walk over the contracts. Written by gen/gen_slot.py. The reference's small questions of layer 10: do two spans meet, have two sets a number in common, may a holding be, do two holdings meet. Written by gen/gen_heldref1.py. -/
import Derived.Test.YtpoalgkgomljmaaGreatDoorMg01
import Derived.Test.YtpoalgkgomljmaaGreatDoorMg03
import Derived.Test.YtpoalgkgomljmaaGreatDoorMg06
import Derived.Test.YtpoalgkgomljmaaGreatDoorMg05
import Derived.Test.YtpoalgkgomljmaaGreatDoorMg02
import Derived.BigQuiet
import Derived.Deep.RegionHeld3
import Derived.LoopTactic
import Derived.Deep.QuietTactic
import Derived.Test.YtpoalgkgomljmaaGreatDoorMg04
namespace Go.Proofs.YtpoalgkgomljmaaGreatDoor
open Go.RowKit

section
variable {A A' : Option Addr} {n c n' c' : Nat} {xs ys : List Int} {w : World}
theorem s_isSet {v : Bool} (hr : RI w w.heap.size A n xs) (hn : n ≤ maxLen) (h : rightB xs = v) :
    Calls Tryz.prog 80 #[.slice A n c] w fun e w' => e = .returned (.bool v) ∧ Below w.heap.size w w' :=
  (right_any A n c xs w _ hr hn).mono fun _ _ ⟨h1, h2⟩ => ⟨by rw [h1, h], by rw [← h2]; exact Below.refl _ _⟩
theorem s_part {v : Bool} (hr : RI w w.heap.size A n xs) (hr' : RI w w.heap.size A' n' ys) (hn : n ≤ maxLen) (hn' : n' ≤ maxLen) (h : partB xs ys = v) :
    Calls Tryz.prog 20 #[.slice A n c, .slice A' n' c'] w fun e w' => e = .returned (.bool v) ∧ Below w.heap.size w w' := h ▸ part_any A A' n c n' c' xs ys w hr hr' hn hn'
theorem s_apart {v : Bool} (hr : RI w w.heap.size A n xs) (hr' : RI w w.heap.size A' n' ys) (hn : n ≤ maxLen) (hn' : n' ≤ maxLen) (h : apartB xs ys = v) :
    Calls Tryz.prog 21 #[.slice A n c, .slice A' n' c'] w fun e w' => e = .returned (.bool v) ∧ Below w.heap.size w w' := h ▸ apart_any A A' n c n' c' xs ys w hr hr' hn hn'
theorem s_less (hr : RI w w.heap.size A n xs) (hr' : RI w w.heap.size A' n' ys) (hn : n ≤ maxLen) (hn' : n' ≤ maxLen) (hG : Glob w) :
    Calls Tryz.prog 56 #[.slice A n c, .slice A' n' c'] w (IPost (lessL xs ys) w) := less_post A A' n c n' c' xs ys w hr hr' hn hn' hG.tz hG.pos
theorem ri_isSet {v : Bool} (hr : RI w w.heap.size A n xs) (hn : n ≤ maxLen) (h : rightB xs = v) :
    Calls Tryz.prog 31 #[.slice A n c] w fun e w' => e = .returned (.bool v) ∧ Below w.heap.size w w' :=
  (refRight_any A n c xs w _ hr hn).mono fun _ _ ⟨h1, k, h2⟩ => ⟨by rw [h1, h], by rw [h2]; exact bel_drew w k⟩
theorem ri_has {x : Int} {v : Bool} (hr : RI w w.heap.size A n xs) (hn : n ≤ maxLen) (h : hasB xs x = v) :
    Calls Tryz.prog 33 #[.slice A n c, .int .i64 x] w fun e w' => e = .returned (.bool v) ∧ Below w.heap.size w w' :=
  (refHas_any A n c xs x w hr hn).mono fun _ _ ⟨h1, k, h2⟩ => ⟨by rw [h1, h], by rw [h2]; exact bel_drew w k⟩
theorem ri_same {v : Bool} (hr : RI w w.heap.size A n xs) (hr' : RI w w.heap.size A' n' ys) (hn : n ≤ maxLen) (hn' : n' ≤ maxLen) (h : sameB xs ys = v) :
    Calls Tryz.prog 13 #[.slice A n c, .slice A' n' c'] w fun e w' => e = .returned (.bool v) ∧ Below w.heap.size w w' :=
  (same_any A A' n c n' c' xs ys w _ _ hr hr' hn hn').mono fun _ _ ⟨h1, k, h2⟩ => ⟨by rw [h1, h], by rw [h2]; exact bel_drew w k⟩
end
theorem same_self (xs : List Int) : sameB xs xs = true := sameB_iff.2 rfl

end Go.Proofs.YtpoalgkgomljmaaGreatDoor

namespace Go.Proofs.YtpoalgkgomljmaaGreatDoor
open Go.RowKit

/-- what the statements ask about a graph, a list of numbers -/
structure GAsk (w : World) (A : Option Addr) (n c : Nat) (g : Gr) : Prop where
  reads : RG w w.heap.size A n g
  nil : A = none → c = 0
  cap : n ≤ c
  few : n ≤ 300
structure LAsk (w : World) (A : Option Addr) (n c : Nat) (l : List Int) : Prop where
  reads : RI w w.heap.size A n l
  nil : A = none → c = 0
  cap : n ≤ c
  few : n ≤ 300
  int : ∀ x ∈ l, I64 x
theorem GAsk.next {w w' : World} {A : Option Addr} {n c : Nat} {g : Gr} (h : GAsk w A n c g) (hb : Below w.heap.size w w') : GAsk w' A n c g := ⟨h.reads.next hb, h.nil, h.cap, h.few⟩
theorem LAsk.next {w w' : World} {A : Option Addr} {n c : Nat} {l : List Int} (h : LAsk w A n c l) (hb : Below w.heap.size w w') : LAsk w' A n c l := ⟨h.reads.next hb, h.nil, h.cap, h.few, h.int⟩

/-- a list of numbers, however long -/
structure WAsk (w : World) (A : Option Addr) (n c : Nat) (l : List Int) : Prop where
  reads : RI w w.heap.size A n l
  nil : A = none → c = 0
  cap : n ≤ c
  few : n ≤ maxLen
  int : ∀ x ∈ l, I64 x
theorem WAsk.next {w w' : World} {A : Option Addr} {n c : Nat} {l : List Int} (h : WAsk w A n c l) (hb : Below w.heap.size w w') : WAsk w' A n c l := ⟨h.reads.next hb, h.nil, h.cap, h.few, h.int⟩
theorem LAsk.wide {w : World} {A : Option Addr} {n c : Nat} {l : List Int} (h : LAsk w A n c l) : WAsk w A n c l := ⟨h.reads, h.nil, h.cap, Nat.le_trans h.few (by unfold maxLen; omega), h.int⟩

structure GraphOk : Prop where
  right : ∀ (A : Option Addr) (n c : Nat) (g : Gr) (w : World), GAsk w A n c g → Glob w →
    Calls Tryz.prog 105 #[.slice A n c] w fun e w' => e = .returned (.bool (rightG g)) ∧ Below w.heap.size w w'
  tag : ∀ (s : ByteArray) (w : World), s.size ≤ maxLen → Glob w →
    Calls Tryz.prog 71 #[.string s] w fun e w' => e = .returned (.bool (tagB s)) ∧ Below w.heap.size w w'
  under : ∀ (A : Option Addr) (n c : Nat) (g : Gr) (a : Int) (w : World), GAsk w A n c g → I64 a → Glob w →
    Calls Tryz.prog 48 #[.slice A n c, .int .i64 a] w (IPost (underL g a) w)
  nodes : ∀ (A : Option Addr) (n c : Nat) (g : Gr) (w : World), GAsk w A n c g → Glob w →
    Calls Tryz.prog 108 #[.slice A n c] w (IPost (nodesL g) w)

theorem ml300 {n : Nat} (h : n ≤ 300) : n ≤ maxLen := by unfold maxLen; omega
theorem calls_kinds {P : Program} {f : FuncId} {args : Array Value} {w : World} {v v' : Value} (h : Calls P f args w fun e w' => e = .returned v ∧ Below w.heap.size w w') (e : v = v') :
    Calls P f args w fun e w' => e = .returned v' ∧ Below w.heap.size w w' := by
  subst e; exact h
theorem i64_small {k : Nat} (h : k ≤ 300) : I64 (k : Int) := by unfold I64; omega

/-! The lists, as sets of numbers below 256 -/
section
variable {g : Gr}
theorem underL_len (a : Int) : (underL g a).length ≤ 256 := by
  unfold underL
  split
  · rename_i h
    have h1 := (rightG_is h.1).few
    exact Nat.le_trans (numsF_len _ _) h1
  · exact Nat.zero_le _
theorem aboveL_len (a : Int) : (aboveL g a).length ≤ 256 := by
  unfold aboveL
  split
  · rename_i h
    have h1 := (rightG_is h.1).few
    exact Nat.le_trans (numsF_len _ _) (by omega)
  · exact Nat.zero_le _
theorem wholeL_len (l : List Int) : (wholeL g l).length ≤ 256 := by
  unfold wholeL
  split
  · rename_i h
    unfold wholeOk at h
    rw [Bool.and_eq_true, Bool.and_eq_true] at h
    exact Nat.le_trans (numsF_len _ _) (rightG_is h.1.1).few
  · exact Nat.zero_le _
theorem nodesL_len : (nodesL g).length ≤ 256 := by
  unfold nodesL
  split
  · rename_i h
    exact Nat.le_trans (numsF_len _ _) (rightG_is h).few
  · exact Nat.zero_le _
theorem numsF_i64 {p : Nat → Bool} {n : Nat} (hn : n ≤ 300) : ∀ x ∈ numsF p n, I64 x := by
  intro x hx
  obtain ⟨k, hk, _, rfl⟩ := mem_numsF.1 hx
  exact i64_small (by omega)
theorem underL_i64 (a : Int) : ∀ x ∈ underL g a, I64 x := by
  unfold underL
  split
  · rename_i h
    have h1 := (rightG_is h.1).few
    exact numsF_i64 (by omega)
  · intro x hx; cases hx
theorem wholeL_i64 (l : List Int) : ∀ x ∈ wholeL g l, I64 x := by
  unfold wholeL
  split
  · rename_i h
    unfold wholeOk at h
    rw [Bool.and_eq_true, Bool.and_eq_true] at h
    have h1 := (rightG_is h.1.1).few
    exact numsF_i64 (by omega)
  · intro x hx; cases hx
end

end Go.Proofs.YtpoalgkgomljmaaGreatDoor

namespace Go.Proofs.YtpoalgkgomljmaaGreatDoor
open Go.RowKit

structure SpecOk : Prop where
  right : ∀ (s : Sp) (w : World), SAsk s → Glob w → Calls Tryz.prog 40 #[spV s] w fun e w' => e = .returned (.bool (rightS s)) ∧ Below w.heap.size w w'
  ends : ∀ (s : Sp) (a : Int) (w : World), SAsk s → I64 a → Glob w → Calls Tryz.prog 19 #[spV s, .int .i64 a] w fun e w' => e = .returned (.int .i64 (endsS s a)) ∧ Below w.heap.size w w'

section
variable (H : SpecOk) {s t : Sp} {w : World} (hs : SAsk s) (hG : Glob w)
include H hs hG
theorem s7_right {b : Bool} (h : rightS s = b) : Calls Tryz.prog 40 #[.agg #[.int .i64 s.nodes, .int .i64 s.cores, .int .i64 s.gpus, .string s.tag, .bool s.whole, .int .i64 s.long, .int .i64 s.prio]] w fun e w' => e = .returned (.bool b) ∧ Below w.heap.size w w' := by
  subst h; exact H.right s w hs hG
theorem s7_ends {a r : Int} (ha : I64 a) (h : endsS s a = r) : Calls Tryz.prog 19 #[.agg #[.int .i64 s.nodes, .int .i64 s.cores, .int .i64 s.gpus, .string s.tag, .bool s.whole, .int .i64 s.long, .int .i64 s.prio], .int .i64 a] w fun e w' => e = .returned (.int .i64 r) ∧ Below w.heap.size w w' := by
  subst h; exact H.ends s a w hs ha hG
end
theorem i64_of {x : Int} (h1 : -2000000000000 ≤ x) (h2 : x ≤ 2000000000000) : I64 x := by unfold I64; omega

end Go.Proofs.YtpoalgkgomljmaaGreatDoor

namespace Go.Proofs.YtpoalgkgomljmaaGreatDoor
open Go.RowKit

/-- a world that keeps all that was there in w -/
structure Later (w : World) where
  now : World
  bel : Below w.heap.size w now
instance (w : World) : Nonempty (Later w) := ⟨⟨w, Below.refl _ _⟩⟩
theorem below_drew1 (w : World) : Below w.heap.size w w.drew := bel_drew w 1
theorem wp_region_later {P : Program} {id : Nat} {Q : Exit → Act → World → Prop} {a : Act} {w : World} {l : List Oper} (hm : P.follows .mixedOrders = true) (hB : Region.lexB .any l.toArray = true)
    (h : wpQuiet P l.toArray (fun w' => ∃ p : Later w, w' = p.now) (fun a' => ∀ w', (∃ p : Later w, w' = p.now) → Q .normal a' w') l a) : (Code.region id l.toArray true).wp P Q a w :=
  wp_region_quiet (C := fun w' => ∃ p : Later w, w' = p.now) hm hB ⟨⟨w.drew, below_drew1 w⟩, rfl⟩ (by simpa using h)
theorem Calls.later_of {P : Program} {f : FuncId} {args : Array Value} {w : World} {p : Later w} {v : Value} (h : Calls P f args p.now fun e w' => e = .returned v ∧ Below p.now.heap.size p.now w') :
    Calls P f args p.now fun e w'' => e = .returned v ∧ ∃ q : Later w, w'' = q.now :=
  h.mono fun _ w' hz => ⟨hz.1, ⟨w', p.bel.trans (hz.2.mono p.bel.size)⟩, rfl⟩
theorem Later.cell {w : World} {p : Later w} {a : Addr} {v : Value} (hl : a.block < w.heap.size) (h : w.cell? a = some v) : p.now.cell? a = some v := (p.bel.cell hl).trans h

/-! a cell that is carried from world to world -/
theorem bel_drew1 (w : World) : Below w.heap.size w w.drew := bel_drew w 1
theorem keep_cell {w wx : World} {p : Addr} {v : Value} (hl : p.block < w.heap.size) (h : w.cell? p = some v) (hb : Below w.heap.size w wx) : wx.cell? p = some v := (hb.cell hl).trans h
structure CellK (w : World) (p : Addr) (v : Value) : Prop where
  lt : p.block < w.heap.size
  at' : w.cell? p = some v
theorem CellK.next {w w' : World} {p : Addr} {v : Value} (h : CellK w p v) (hb : Below w.heap.size w w') : CellK w' p v := ⟨Nat.lt_of_lt_of_le h.lt hb.size, keep_cell h.lt h.at' hb⟩

end Go.Proofs.YtpoalgkgomljmaaGreatDoor

namespace Go.Proofs.YtpoalgkgomljmaaGreatDoor
open Go.RowKit

/-- numbers and a yes or no, as a result that may be asked about again -/
def FPost (l : List Int) (b : Bool) (w : World) (e : Ending) (w' : World) : Prop :=
  (∃ A c, e = .returned (.tuple #[.slice A l.length c, .bool b]) ∧ RI w' w'.heap.size A l.length l ∧ (A = none → c = 0) ∧ l.length ≤ c) ∧ Below w.heap.size w w'
structure MatchOk : Prop where
  find : ∀ (A : Option Addr) (n c : Nat) (A2 : Option Addr) (n2 c2 : Nat) (g : Gr) (F : List Int) (s : Sp) (w : World), GAsk w A n c g → LAsk w A2 n2 c2 F → SAsk s → Glob w →
    Calls Tryz.prog 47 #[.slice A n c, .slice A2 n2 c2, spV s] w (FPost (findL g F s) (hadB g F s) w)
  could : ∀ (A : Option Addr) (n c : Nat) (g : Gr) (s : Sp) (w : World), GAsk w A n c g → SAsk s → Glob w →
    Calls Tryz.prog 23 #[.slice A n c, spV s] w fun e w' => e = .returned (.bool (couldL g s)) ∧ Below w.heap.size w w'

section
variable (H : MatchOk) {A : Option Addr} {n c : Nat} {A2 : Option Addr} {n2 c2 : Nat} {g : Gr} {F : List Int} {s : Sp} {w : World}
include H
theorem m9_find (hg : GAsk w A n c g) (hf : LAsk w A2 n2 c2 F) (hs : SAsk s) (hG : Glob w) {l : List Int} {b : Bool} (h : findL g F s = l) (h2 : hadB g F s = b) :
    Calls Tryz.prog 47 #[.slice A n c, .slice A2 n2 c2, .agg #[.int .i64 s.nodes, .int .i64 s.cores, .int .i64 s.gpus, .string s.tag, .bool s.whole, .int .i64 s.long, .int .i64 s.prio]] w (FPost l b w) := by
  subst h h2; exact H.find A n c A2 n2 c2 g F s w hg hf hs hG
theorem m9_could (hg : GAsk w A n c g) (hs : SAsk s) (hG : Glob w) {b : Bool} (h : couldL g s = b) :
    Calls Tryz.prog 23 #[.slice A n c, .agg #[.int .i64 s.nodes, .int .i64 s.cores, .int .i64 s.gpus, .string s.tag, .bool s.whole, .int .i64 s.long, .int .i64 s.prio]] w fun e w' => e = .returned (.bool b) ∧ Below w.heap.size w w' := by
  subst h; exact H.could A n c g s w hg hs hG
end
/-- a cell, kept from world to world -/
theorem cell_list {w : World} {A : Option Addr} {n k : Nat} {l : List Int} {x : Int} (h : RI w w.heap.size A n l) (hk : k < n) (hx : l.getD k 0 = x) : ∃ b off, A = some ⟨b, off, none⟩ ∧ CellK w ⟨b, off + k, none⟩ (.int .i64 x) := by
  obtain ⟨b, off, e, hl, hc⟩ := RI.one h hk
  rw [hx] at hc
  exact ⟨b, off, e, hl, hc⟩
theorem cell_tag {w : World} {A : Option Addr} {n k : Nat} {g : Gr} {t : ByteArray} (h : RG w w.heap.size A n g) (hk : k < n) (hx : gt g k = t) : ∃ b off, A = some ⟨b, off, none⟩ ∧ CellK w ⟨b, off + k * 3 + 2, none⟩ (.string t) := by
  obtain ⟨b, off, e, hl, _, _, hc, _⟩ := RG.one h hk
  rw [hx] at hc
  exact ⟨b, off, e, hl, hc⟩
/-- a field of a spec in its box is set -/
theorem BoxS.set {wr : World} {g j : Nat} {s s' : Sp} {v : Value} (h : BoxS wr g s) (e : (#[.int .i64 s.nodes, .int .i64 s.cores, .int .i64 s.gpus, .string s.tag, .bool s.whole, .int .i64 s.long, .int .i64 s.prio] : Array Value).setIfInBounds j v = #[.int .i64 s'.nodes, .int .i64 s'.cores, .int .i64 s'.gpus, .string s'.tag, .bool s'.whole, .int .i64 s'.long, .int .i64 s'.prio]) : BoxS (wr.setCell ⟨g, j, none⟩ v) g s' := by
  refine ⟨by simpa [World.setCell] using h.lt, ?_⟩
  show (wr.heap.modify g _)[g]? = _
  rw [Array.getElem?_modify, if_pos rfl, h.at']
  unfold spO
  simp only [Option.map_some]
  rw [← e]
  rfl
theorem str_none {s : ByteArray} (h : s.size = 0) : s.toList = [] ∧ s.toList.isEmpty = true ∧ (s.toList == []) = true ∧ (s.toList != []) = false := by
  have h1 : s.toList = [] := by rw [ByteArray.toList_eq, str_empty h]
  rw [h1]
  exact ⟨rfl, rfl, rfl, rfl⟩
theorem str_ne {a b : ByteArray} (h : a ≠ b) : (a.toList == b.toList) = false ∧ (a.toList != b.toList) = true ∧ ¬ a.toList = b.toList := by
  have h1 : ¬ a.toList = b.toList := by
    rw [ByteArray.toList_eq, ByteArray.toList_eq]
    intro e
    exact h (ByteArray.ext (Array.ext' e))
  exact ⟨beq_eq_false_iff_ne.2 h1, bne_iff_ne.2 h1, h1⟩
theorem suitsL_is {g : Gr} {F : List Int} {s : Sp} {x : Nat} (hx : x < g.length) : suitsL g F s (x : Int) = (mayB g F s && suitP g F s x) := by
  unfold suitsL
  rw [decide_eq_true (show (0 : Int) ≤ (x : Int) ∧ (x : Int) < (g.length : Int) by omega), Int.toNat_natCast, Bool.true_and]
theorem plain_ask {s : Sp} (h : SAsk s) : SAsk (plainS s) := ⟨h.nodes, h.cores, h.gpus, (Nat.zero_le _ : (⟨#[]⟩ : ByteArray).size ≤ maxLen), h.long, h.prio⟩
theorem findL_i64 {g : Gr} {F : List Int} {s : Sp} : ∀ x ∈ findL g F s, I64 x := by
  unfold findL
  split
  · rename_i h
    exact numsF_i64 (by have := (rightG_is (mayB_is (hadB_is.1 h).1).1).few; omega)
  · intro x hx; cases hx
theorem findL_few {g : Gr} {F : List Int} {s : Sp} : (findL g F s).length ≤ 256 := by
  unfold findL
  split
  · rename_i h
    exact Nat.le_trans (numsF_len _ _) (rightG_is (mayB_is (hadB_is.1 h).1).1).few
  · exact Nat.zero_le _
/-- what was found, as numbers that may be asked about -/
theorem find_lask {g : Gr} {F : List Int} {s : Sp} {w : World} {A : Option Addr} {c : Nat} (h : RI w w.heap.size A (findL g F s).length (findL g F s)) (h1 : A = none → c = 0) (h2 : (findL g F s).length ≤ c) : LAsk w A (findL g F s).length c (findL g F s) :=
  ⟨h, h1, h2, Nat.le_trans findL_few (by omega), findL_i64⟩
theorem under_lask {g : Gr} {a : Int} {w : World} {A : Option Addr} {c : Nat} (h : RI w w.heap.size A (underL g a).length (underL g a)) (h1 : A = none → c = 0) (h2 : (underL g a).length ≤ c) : LAsk w A (underL g a).length c (underL g a) :=
  ⟨h, h1, h2, Nat.le_trans (underL_len _) (by omega), underL_i64 _⟩
theorem nodesL_i64 {g : Gr} : ∀ x ∈ nodesL g, I64 x := by
  unfold nodesL
  split
  · rename_i h
    exact numsF_i64 (by have := (rightG_is h).few; omega)
  · intro x hx; cases hx
theorem nodes_lask {g : Gr} {w : World} {A : Option Addr} {c : Nat} (h : RI w w.heap.size A (nodesL g).length (nodesL g)) (h1 : A = none → c = 0) (h2 : (nodesL g).length ≤ c) : LAsk w A (nodesL g).length c (nodesL g) :=
  ⟨h, h1, h2, Nat.le_trans nodesL_len (by omega), nodesL_i64⟩

end Go.Proofs.YtpoalgkgomljmaaGreatDoor

namespace Go.Proofs.YtpoalgkgomljmaaGreatDoor
open Go.RowKit

/-- a time, numbers, and a yes or no -/
def FTPost (t : Int) (l : List Int) (b : Bool) (w : World) (e : Ending) (w' : World) : Prop :=
  (∃ A c, e = .returned (.tuple #[.int .i64 t, .slice A l.length c, .bool b]) ∧ RI w' w'.heap.size A l.length l ∧ (A = none → c = 0) ∧ l.length ≤ c) ∧ Below w.heap.size w w'
structure SlotOk : Prop where
  at' : ∀ (A : Option Addr) (n c : Nat) (g : Gr) (A2 : Option Addr) (n2 c2 : Nat) (use : List Int) (A3 : Option Addr) (n3 c3 : Nat) (l : Tb) (s : Sp) (t u : Int) (w : World), GAsk w A n c g → LAsk w A2 n2 c2 use → TAsk w A3 n3 c3 l → FewT l → SAsk s → I64 t → I64 u → Glob w → Calls Tryz.prog 9 #[.slice A n c, .slice A2 n2 c2, .slice A3 n3 c3, .agg #[.int .i64 s.nodes, .int .i64 s.cores, .int .i64 s.gpus, .string s.tag, .bool s.whole, .int .i64 s.long, .int .i64 s.prio], .int .i64 t, .int .i64 u] w (FPost (gotS g use l s u t) (decide (FitsS g use l s u t)) w)
  first : ∀ (A : Option Addr) (n c : Nat) (g : Gr) (A2 : Option Addr) (n2 c2 : Nat) (use : List Int) (A3 : Option Addr) (n3 c3 : Nat) (l : Tb) (s : Sp) (t u : Int) (w : World), GAsk w A n c g → LAsk w A2 n2 c2 use → TAsk w A3 n3 c3 l → FewT l → SAsk s → I64 t → I64 u → Glob w → Calls Tryz.prog 11 #[.slice A n c, .slice A2 n2 c2, .slice A3 n3 c3, .agg #[.int .i64 s.nodes, .int .i64 s.cores, .int .i64 s.gpus, .string s.tag, .bool s.whole, .int .i64 s.long, .int .i64 s.prio], .int .i64 t, .int .i64 u] w (FTPost (firstAtS g use l s t u) (firstLS g use l s t u) (firstBS g use l s t u) w)
  plan : ∀ (A : Option Addr) (n c : Nat) (g : Gr) (A2 : Option Addr) (n2 c2 : Nat) (use : List Int) (A3 : Option Addr) (n3 c3 : Nat) (l : Tb) (A4 : Option Addr) (n4 c4 : Nat) (ws : List Wn) (t u : Int) (w : World), GAsk w A n c g → LAsk w A2 n2 c2 use → TAsk w A3 n3 c3 l → FewT l → WnAsk w A4 n4 c4 ws → n ≤ 60 → n3 + n4 ≤ 60 → I64 t → I64 u → Glob w → Calls Tryz.prog 15 #[.slice A n c, .slice A2 n2 c2, .slice A3 n3 c3, .slice A4 n4 c4, .int .i64 t, .int .i64 u] w (TEPost (planT g use l ws t u) (planE g use l ws t u) w)

section
variable (H : SlotOk) {A A2 A3 A4 : Option Addr} {n c n2 c2 n3 c3 n4 c4 : Nat} {g : Gr} {use : List Int} {l : Tb} {s : Sp} {t u : Int} {ws : List Wn} {w : World}
include H
theorem s13_at (hg : GAsk w A n c g) (hu : LAsk w A2 n2 c2 use) (hl : TAsk w A3 n3 c3 l) (hf : FewT l) (hs : SAsk s) (ht : I64 t) (hv : I64 u) (hG : Glob w) {r : List Int} {b : Bool} (e1 : gotS g use l s u t = r) (e2 : decide (FitsS g use l s u t) = b) : Calls Tryz.prog 9 #[.slice A n c, .slice A2 n2 c2, .slice A3 n3 c3, .agg #[.int .i64 s.nodes, .int .i64 s.cores, .int .i64 s.gpus, .string s.tag, .bool s.whole, .int .i64 s.long, .int .i64 s.prio], .int .i64 t, .int .i64 u] w (FPost r b w) := by
  subst e1 e2; exact H.at' A n c g A2 n2 c2 use A3 n3 c3 l s t u w hg hu hl hf hs ht hv hG
theorem s13_first (hg : GAsk w A n c g) (hu : LAsk w A2 n2 c2 use) (hl : TAsk w A3 n3 c3 l) (hf : FewT l) (hs : SAsk s) (ht : I64 t) (hv : I64 u) (hG : Glob w) {x : Int} {r : List Int} {b : Bool} (e0 : firstAtS g use l s t u = x) (e1 : firstLS g use l s t u = r) (e2 : firstBS g use l s t u = b) : Calls Tryz.prog 11 #[.slice A n c, .slice A2 n2 c2, .slice A3 n3 c3, .agg #[.int .i64 s.nodes, .int .i64 s.cores, .int .i64 s.gpus, .string s.tag, .bool s.whole, .int .i64 s.long, .int .i64 s.prio], .int .i64 t, .int .i64 u] w (FTPost x r b w) := by
  subst e0 e1 e2; exact H.first A n c g A2 n2 c2 use A3 n3 c3 l s t u w hg hu hl hf hs ht hv hG
theorem s13_plan (hg : GAsk w A n c g) (hu : LAsk w A2 n2 c2 use) (hl : TAsk w A3 n3 c3 l) (hf : FewT l) (hw : WnAsk w A4 n4 c4 ws) (hn : n ≤ 60) (hn3 : n3 + n4 ≤ 60) (ht : I64 t) (hv : I64 u) (hG : Glob w) {r : Tb} {er : Int} (e1 : planT g use l ws t u = r) (e2 : planE g use l ws t u = er) : Calls Tryz.prog 15 #[.slice A n c, .slice A2 n2 c2, .slice A3 n3 c3, .slice A4 n4 c4, .int .i64 t, .int .i64 u] w (TEPost r er w) := by
  subst e1 e2; exact H.plan A n c g A2 n2 c2 use A3 n3 c3 l A4 n4 c4 ws t u w hg hu hl hf hw hn hn3 ht hv hG
end

end Go.Proofs.YtpoalgkgomljmaaGreatDoor

namespace Go.Proofs.YtpoalgkgomljmaaGreatDoor
open Go.RowKit

structure HeldOk : Prop where
  right : ∀ (A : Option Addr) (n c : Nat) (l : Tb) (w : World), TAsk w A n c l → FewT l → Calls Tryz.prog 25 #[.slice A n c] w (fun e w' => e = .returned (.bool (rightT l)) ∧ Below w.heap.size w w')
  busy : ∀ (A : Option Addr) (n c : Nat) (l : Tb) (a b : Int) (w : World), TAsk w A n c l → FewT l → Calls Tryz.prog 22 #[.slice A n c, .int .i64 a, .int .i64 b] w (IPost (busyT l a b) w)
  ends : ∀ (A : Option Addr) (n c : Nat) (l : Tb) (z : Int) (w : World), TAsk w A n c l → FewT l → Calls Tryz.prog 18 #[.slice A n c, .int .i64 z] w (IPost (endsT l z) w)
  get : ∀ (A : Option Addr) (n c : Nat) (l : Tb) (id : Int) (w : World), TAsk w A n c l → FewT l → Calls Tryz.prog 26 #[.slice A n c, .int .i64 id] w (GHPost (getT l id) (gotT l id) w)
  add : ∀ (A : Option Addr) (n c : Nat) (l : Tb) (A2 : Option Addr) (m c2 : Nat) (h : Hd) (w : World), TAsk w A n c l → FewT l → HAsk w A2 m c2 h → m ≤ 100 → Calls Tryz.prog 24 #[.slice A n c, .agg #[.int .i64 h.id, .slice A2 m c2, .int .i64 h.frm, .int .i64 h.to]] w (TEPost (addT l h) (addE l h) w)

section
variable (H : HeldOk) {A : Option Addr} {n c : Nat} {A2 : Option Addr} {m c2 : Nat} {l : Tb} {h : Hd} {w : World}
include H
theorem h10_add (hl : TAsk w A n c l) (hf : FewT l) (hh : HAsk w A2 m c2 h) (hm : m ≤ 100) {l' : Tb} {er : Int} (e1 : addT l h = l') (e2 : addE l h = er) :
    Calls Tryz.prog 24 #[.slice A n c, .agg #[.int .i64 h.id, .slice A2 m c2, .int .i64 h.frm, .int .i64 h.to]] w (TEPost l' er w) := by
  subst e1 e2; exact H.add A n c l A2 m c2 h w hl hf hh hm
theorem h10_right (hl : TAsk w A n c l) (hf : FewT l) {v : Bool} (e : rightT l = v) : Calls Tryz.prog 25 #[.slice A n c] w fun e w' => e = .returned (.bool v) ∧ Below w.heap.size w w' := by
  subst e; exact H.right A n c l w hl hf
theorem h10_busy (hl : TAsk w A n c l) (hf : FewT l) {a b : Int} {r : List Int} (e : busyT l a b = r) : Calls Tryz.prog 22 #[.slice A n c, .int .i64 a, .int .i64 b] w (IPost r w) := by
  subst e; exact H.busy A n c l a b w hl hf
theorem h10_ends (hl : TAsk w A n c l) (hf : FewT l) {z : Int} {r : List Int} (e : endsT l z = r) : Calls Tryz.prog 18 #[.slice A n c, .int .i64 z] w (IPost r w) := by
  subst e; exact H.ends A n c l z w hl hf
theorem h10_get (hl : TAsk w A n c l) (hf : FewT l) {id : Int} {x : Hd} {b : Bool} (e1 : getT l id = x) (e2 : gotT l id = b) : Calls Tryz.prog 26 #[.slice A n c, .int .i64 id] w (GHPost x b w) := by
  subst e1 e2; exact H.get A n c l id w hl hf
end
section
variable {w : World}
/-- a list that a literal lays -/
theorem ri_litH (w : World) (xs : List Int) (cs : Array Value) (hc : cs.toList = xs.map (Value.int .i64)) : RI (w.alloc (.cells cs 3)) (w.alloc (.cells cs 3)).heap.size (some ⟨w.heap.size, 0, none⟩) xs.length xs := by
  refine ⟨rfl, fun _ => ⟨w.heap.size, 0, rfl, by simp, fun j hj => ?_⟩⟩
  rw [cell_of_row _ w.heap.size (0 + j) _ _ (0, 0) (heap_alloc_new w _), Nat.zero_add, ← Array.getElem?_toList, hc, List.getElem?_map, List.getElem?_eq_getElem hj, List.getD, List.getElem?_eq_getElem hj]
  rfl
theorem nil_ask (w : World) : TAsk w none 0 0 [] := ⟨RT.nil, fun _ => rfl, Nat.le_refl _, Nat.zero_le _⟩
/-- a table that was answered may be asked about -/
theorem ans_ask {A : Option Addr} {c : Nat} {l : Tb} (h : RT w w.heap.size A l.length l) (h1 : A = none → c = 0) (h2 : l.length ≤ c) (h3 : l.length ≤ maxLen) : TAsk w A l.length c l := ⟨h, h1, h2, h3⟩
/-- 30 holdings of 60 things -/
def shortHB (l : Tb) : Prop := l.length ≤ 30 ∧ ∀ h ∈ l, h.things.length ≤ 60
theorem short_few {l : Tb} (h : shortHB l) : FewT l := ⟨by have := h.1; omega, fun x hx => by have := h.2 x hx; omega⟩
end

end Go.Proofs.YtpoalgkgomljmaaGreatDoor

namespace Go.Proofs.YtpoalgkgomljmaaGreatDoor
open Go.RowKit

def gS : Gr := [⟨0, -1, ⟨#[]⟩⟩, ⟨2, 0, ⟨#[]⟩⟩, ⟨3, 1, ⟨#[]⟩⟩, ⟨3, 1, ⟨#[]⟩⟩]
def lS : Tb := [⟨1, [2], 0, 5⟩]
def sS1 : Sp := ⟨1, 2, 0, ⟨#[]⟩, false, 3, 0⟩
def sS2 : Sp := ⟨1, 1, 0, ⟨#[]⟩, false, 3, 0⟩
theorem awS_1 : firstAtS gS [0, 1, 2, 3] lS sS1 1 100 = 5 ∧ firstLS gS [0, 1, 2, 3] lS sS1 1 100 = [2, 3] ∧ firstBS gS [0, 1, 2, 3] lS sS1 1 100 = true := by decide +kernel
theorem awS_2 : firstAtS gS [0, 1, 2, 3] lS sS2 1 100 = 1 ∧ firstLS gS [0, 1, 2, 3] lS sS2 1 100 = [3] ∧ firstBS gS [0, 1, 2, 3] lS sS2 1 100 = true := by decide +kernel
theorem awS_few : FewT lS := ⟨by decide, fun h hh => by unfold lS at hh; simp at hh; subst hh; decide⟩
theorem awS_ask1 : SAsk sS1 := ⟨i64_of (by decide) (by decide), i64_of (by decide) (by decide), i64_of (by decide) (by decide), by decide, i64_of (by decide) (by decide), i64_of (by decide) (by decide)⟩
theorem awS_ask2 : SAsk sS2 := ⟨i64_of (by decide) (by decide), i64_of (by decide) (by decide), i64_of (by decide) (by decide), by decide, i64_of (by decide) (by decide), i64_of (by decide) (by decide)⟩
theorem gS_lit (w : World) : GAsk (w.alloc (.cells #[.int .i64 0, .int .i64 (-1), .string ⟨#[]⟩, .int .i64 2, .int .i64 0, .string ⟨#[]⟩, .int .i64 3, .int .i64 1, .string ⟨#[]⟩, .int .i64 3, .int .i64 1, .string ⟨#[]⟩] 59)) (some ⟨w.heap.size, 0, none⟩) 4 4 gS := by
  refine ⟨⟨rfl, fun _ => ⟨w.heap.size, 0, rfl, by show w.heap.size < _; simp, fun j x hx => ?_⟩⟩, (fun h => by cases h), by omega, by omega⟩
  have hj : j < 4 := (List.getElem?_eq_some_iff.1 hx).1
  have hcell : ∀ o, (w.alloc (.cells #[.int .i64 0, .int .i64 (-1), .string ⟨#[]⟩, .int .i64 2, .int .i64 0, .string ⟨#[]⟩, .int .i64 3, .int .i64 1, .string ⟨#[]⟩, .int .i64 3, .int .i64 1, .string ⟨#[]⟩] 59)).cell? ⟨w.heap.size, o, none⟩ = _ := fun o => World.cell?_alloc_at (w := w) _ _ w.heap.size o rfl
  rcases (show j = 0 ∨ j = 1 ∨ j = 2 ∨ j = 3 by omega) with rfl | rfl | rfl | rfl
  all_goals
    simp [gS] at hx
    subst hx
    refine ⟨_, rfl, fun i v hv => ?_, rfl, by unfold I64; simp, by unfold I64; simp, by unfold maxLen; decide⟩
    have hi : i < 3 := (List.getElem?_eq_some_iff.1 hv).1
    rcases (show i = 0 ∨ i = 1 ∨ i = 2 by omega) with rfl | rfl | rfl
    all_goals
      rw [hcell]
      simp at hv ⊢
      exact hv
theorem uS_lit (w : World) : LAsk (w.alloc (.cells #[.int .i64 0, .int .i64 1, .int .i64 2, .int .i64 3] 3)) (some ⟨w.heap.size, 0, none⟩) 4 4 [0, 1, 2, 3] :=
  ⟨ri_litH w [0, 1, 2, 3] _ rfl, fun e => (by cases e), Nat.le_refl _, by omega, fun x hx => (by simp at hx; unfold I64; omega)⟩
/-- a table of one holding that a literal lays -/
theorem lS_lit (w : World) (g : Nat) (hr : RI w w.heap.size (some ⟨g, 0, none⟩) 1 [2]) : TAsk (w.alloc (.cells #[.int .i64 1, .slice (some ⟨g, 0, none⟩) 1 1, .int .i64 0, .int .i64 5] 51)) (some ⟨w.heap.size, 0, none⟩) 1 1 lS := by
  have hh : HAsk w (some ⟨g, 0, none⟩) 1 1 ⟨1, [2], 0, 5⟩ := ⟨hr, fun e => (by cases e), Nat.le_refl _, by decide, i64_of (by decide) (by decide), i64_of (by decide) (by decide), i64_of (by decide) (by decide), fun n hn => by simp at hn; subst hn; exact i64_of (by decide) (by decide)⟩
  refine ⟨⟨rfl, fun _ => ⟨w.heap.size, 0, rfl, by show w.heap.size < _; simp, fun j x hx => ?_⟩⟩, fun e => (by cases e), Nat.le_refl _, by decide⟩
  have hj : j = 0 := by have := (List.getElem?_eq_some_iff.1 hx).1; simp [lS] at this; omega
  subst hj
  simp [lS] at hx
  subst hx
  refine ⟨[.int .i64 1, .slice (some ⟨g, 0, none⟩) 1 1, .int .i64 0, .int .i64 5], rfl, fun i v hv => ?_, ?_⟩
  rotate_left
  · have h2 := HAsk.el hh ((Below.refl w.heap.size w).alloc (Nat.le_refl _) (.cells #[.int .i64 1, .slice (some ⟨g, 0, none⟩) 1 1, .int .i64 0, .int .i64 5] 51))
    exact eh_steady.keep h2 (fun _ _ => rfl) (fun b hb => by show b < _; simp; exact Nat.lt_succ_of_lt hb)
  · rw [World.cell?_alloc_at (w := w) _ _ w.heap.size _ rfl, Nat.zero_mul, Nat.zero_add, Nat.zero_add, ← Array.getElem?_toList]
    exact hv

set_option maxRecDepth 100000 in
set_option maxHeartbeats 8000000 in
theorem awake13_any (H : SlotOk) (w : World) (hG : Glob w) : Calls Tryz.prog 7 #[] w fun e w' => e = .returned (.bool true) ∧ Below w.heap.size w w' := by
  have h1 : Below w.heap.size w (w.alloc (.cells #[.int .i64 0, .int .i64 (-1), .string ⟨#[]⟩, .int .i64 2, .int .i64 0, .string ⟨#[]⟩, .int .i64 3, .int .i64 1, .string ⟨#[]⟩, .int .i64 3, .int .i64 1, .string ⟨#[]⟩] 59)) := ((Below.refl w.heap.size w).alloc (Nat.le_refl _) (.cells #[.int .i64 0, .int .i64 (-1), .string ⟨#[]⟩, .int .i64 2, .int .i64 0, .string ⟨#[]⟩, .int .i64 3, .int .i64 1, .string ⟨#[]⟩, .int .i64 3, .int .i64 1, .string ⟨#[]⟩] 59))
  have h2 : Below (w.alloc (.cells #[.int .i64 0, .int .i64 (-1), .string ⟨#[]⟩, .int .i64 2, .int .i64 0, .string ⟨#[]⟩, .int .i64 3, .int .i64 1, .string ⟨#[]⟩, .int .i64 3, .int .i64 1, .string ⟨#[]⟩] 59)).heap.size (w.alloc (.cells #[.int .i64 0, .int .i64 (-1), .string ⟨#[]⟩, .int .i64 2, .int .i64 0, .string ⟨#[]⟩, .int .i64 3, .int .i64 1, .string ⟨#[]⟩, .int .i64 3, .int .i64 1, .string ⟨#[]⟩] 59)) ((w.alloc (.cells #[.int .i64 0, .int .i64 (-1), .string ⟨#[]⟩, .int .i64 2, .int .i64 0, .string ⟨#[]⟩, .int .i64 3, .int .i64 1, .string ⟨#[]⟩, .int .i64 3, .int .i64 1, .string ⟨#[]⟩] 59)).alloc (.cells #[.int .i64 0, .int .i64 1, .int .i64 2, .int .i64 3] 3)) := ((Below.refl (w.alloc (.cells #[.int .i64 0, .int .i64 (-1), .string ⟨#[]⟩, .int .i64 2, .int .i64 0, .string ⟨#[]⟩, .int .i64 3, .int .i64 1, .string ⟨#[]⟩, .int .i64 3, .int .i64 1, .string ⟨#[]⟩] 59)).heap.size (w.alloc (.cells #[.int .i64 0, .int .i64 (-1), .string ⟨#[]⟩, .int .i64 2, .int .i64 0, .string ⟨#[]⟩, .int .i64 3, .int .i64 1, .string ⟨#[]⟩, .int .i64 3, .int .i64 1, .string ⟨#[]⟩] 59))).alloc (Nat.le_refl _) (.cells #[.int .i64 0, .int .i64 1, .int .i64 2, .int .i64 3] 3))
  have h3 : Below ((w.alloc (.cells #[.int .i64 0, .int .i64 (-1), .string ⟨#[]⟩, .int .i64 2, .int .i64 0, .string ⟨#[]⟩, .int .i64 3, .int .i64 1, .string ⟨#[]⟩, .int .i64 3, .int .i64 1, .string ⟨#[]⟩] 59)).alloc (.cells #[.int .i64 0, .int .i64 1, .int .i64 2, .int .i64 3] 3)).heap.size ((w.alloc (.cells #[.int .i64 0, .int .i64 (-1), .string ⟨#[]⟩, .int .i64 2, .int .i64 0, .string ⟨#[]⟩, .int .i64 3, .int .i64 1, .string ⟨#[]⟩, .int .i64 3, .int .i64 1, .string ⟨#[]⟩] 59)).alloc (.cells #[.int .i64 0, .int .i64 1, .int .i64 2, .int .i64 3] 3)) (((w.alloc (.cells #[.int .i64 0, .int .i64 (-1), .string ⟨#[]⟩, .int .i64 2, .int .i64 0, .string ⟨#[]⟩, .int .i64 3, .int .i64 1, .string ⟨#[]⟩, .int .i64 3, .int .i64 1, .string ⟨#[]⟩] 59)).alloc (.cells #[.int .i64 0, .int .i64 1, .int .i64 2, .int .i64 3] 3)).alloc (.cells #[.int .i64 2] 3)) := ((Below.refl ((w.alloc (.cells #[.int .i64 0, .int .i64 (-1), .string ⟨#[]⟩, .int .i64 2, .int .i64 0, .string ⟨#[]⟩, .int .i64 3, .int .i64 1, .string ⟨#[]⟩, .int .i64 3, .int .i64 1, .string ⟨#[]⟩] 59)).alloc (.cells #[.int .i64 0, .int .i64 1, .int .i64 2, .int .i64 3] 3)).heap.size ((w.alloc (.cells #[.int .i64 0, .int .i64 (-1), .string ⟨#[]⟩, .int .i64 2, .int .i64 0, .string ⟨#[]⟩, .int .i64 3, .int .i64 1, .string ⟨#[]⟩, .int .i64 3, .int .i64 1, .string ⟨#[]⟩] 59)).alloc (.cells #[.int .i64 0, .int .i64 1, .int .i64 2, .int .i64 3] 3))).alloc (Nat.le_refl _) (.cells #[.int .i64 2] 3))
  have h4 : Below (((w.alloc (.cells #[.int .i64 0, .int .i64 (-1), .string ⟨#[]⟩, .int .i64 2, .int .i64 0, .string ⟨#[]⟩, .int .i64 3, .int .i64 1, .string ⟨#[]⟩, .int .i64 3, .int .i64 1, .string ⟨#[]⟩] 59)).alloc (.cells #[.int .i64 0, .int .i64 1, .int .i64 2, .int .i64 3] 3)).alloc (.cells #[.int .i64 2] 3)).heap.size (((w.alloc (.cells #[.int .i64 0, .int .i64 (-1), .string ⟨#[]⟩, .int .i64 2, .int .i64 0, .string ⟨#[]⟩, .int .i64 3, .int .i64 1, .string ⟨#[]⟩, .int .i64 3, .int .i64 1, .string ⟨#[]⟩] 59)).alloc (.cells #[.int .i64 0, .int .i64 1, .int .i64 2, .int .i64 3] 3)).alloc (.cells #[.int .i64 2] 3)) ((((w.alloc (.cells #[.int .i64 0, .int .i64 (-1), .string ⟨#[]⟩, .int .i64 2, .int .i64 0, .string ⟨#[]⟩, .int .i64 3, .int .i64 1, .string ⟨#[]⟩, .int .i64 3, .int .i64 1, .string ⟨#[]⟩] 59)).alloc (.cells #[.int .i64 0, .int .i64 1, .int .i64 2, .int .i64 3] 3)).alloc (.cells #[.int .i64 2] 3)).alloc (.cells #[.int .i64 1, .slice (some ⟨w.heap.size + 1 + 1, 0, none⟩) 1 1, .int .i64 0, .int .i64 5] 51)) := ((Below.refl (((w.alloc (.cells #[.int .i64 0, .int .i64 (-1), .string ⟨#[]⟩, .int .i64 2, .int .i64 0, .string ⟨#[]⟩, .int .i64 3, .int .i64 1, .string ⟨#[]⟩, .int .i64 3, .int .i64 1, .string ⟨#[]⟩] 59)).alloc (.cells #[.int .i64 0, .int .i64 1, .int .i64 2, .int .i64 3] 3)).alloc (.cells #[.int .i64 2] 3)).heap.size (((w.alloc (.cells #[.int .i64 0, .int .i64 (-1), .string ⟨#[]⟩, .int .i64 2, .int .i64 0, .string ⟨#[]⟩, .int .i64 3, .int .i64 1, .string ⟨#[]⟩, .int .i64 3, .int .i64 1, .string ⟨#[]⟩] 59)).alloc (.cells #[.int .i64 0, .int .i64 1, .int .i64 2, .int .i64 3] 3)).alloc (.cells #[.int .i64 2] 3))).alloc (Nat.le_refl _) (.cells #[.int .i64 1, .slice (some ⟨w.heap.size + 1 + 1, 0, none⟩) 1 1, .int .i64 0, .int .i64 5] 51))
  have FG := Lib.hid ((((gS_lit w).next h2).next h3).next h4)
  have FU := Lib.hid (((uS_lit (w.alloc (.cells #[.int .i64 0, .int .i64 (-1), .string ⟨#[]⟩, .int .i64 2, .int .i64 0, .string ⟨#[]⟩, .int .i64 3, .int .i64 1, .string ⟨#[]⟩, .int .i64 3, .int .i64 1, .string ⟨#[]⟩] 59))).next h3).next h4)
  have z1 : (w.alloc (.cells #[.int .i64 0, .int .i64 (-1), .string ⟨#[]⟩, .int .i64 2, .int .i64 0, .string ⟨#[]⟩, .int .i64 3, .int .i64 1, .string ⟨#[]⟩, .int .i64 3, .int .i64 1, .string ⟨#[]⟩] 59)).heap.size = w.heap.size + 1 := by simp
  have z2 : ((w.alloc (.cells #[.int .i64 0, .int .i64 (-1), .string ⟨#[]⟩, .int .i64 2, .int .i64 0, .string ⟨#[]⟩, .int .i64 3, .int .i64 1, .string ⟨#[]⟩, .int .i64 3, .int .i64 1, .string ⟨#[]⟩] 59)).alloc (.cells #[.int .i64 0, .int .i64 1, .int .i64 2, .int .i64 3] 3)).heap.size = w.heap.size + 1 + 1 := by simp
  have z3 : (((w.alloc (.cells #[.int .i64 0, .int .i64 (-1), .string ⟨#[]⟩, .int .i64 2, .int .i64 0, .string ⟨#[]⟩, .int .i64 3, .int .i64 1, .string ⟨#[]⟩, .int .i64 3, .int .i64 1, .string ⟨#[]⟩] 59)).alloc (.cells #[.int .i64 0, .int .i64 1, .int .i64 2, .int .i64 3] 3)).alloc (.cells #[.int .i64 2] 3)).heap.size = w.heap.size + 1 + 1 + 1 := by simp
  have r2 := ri_litH ((w.alloc (.cells #[.int .i64 0, .int .i64 (-1), .string ⟨#[]⟩, .int .i64 2, .int .i64 0, .string ⟨#[]⟩, .int .i64 3, .int .i64 1, .string ⟨#[]⟩, .int .i64 3, .int .i64 1, .string ⟨#[]⟩] 59)).alloc (.cells #[.int .i64 0, .int .i64 1, .int .i64 2, .int .i64 3] 3)) [2] #[.int .i64 2] rfl
  have r3 : RI (((w.alloc (.cells #[.int .i64 0, .int .i64 (-1), .string ⟨#[]⟩, .int .i64 2, .int .i64 0, .string ⟨#[]⟩, .int .i64 3, .int .i64 1, .string ⟨#[]⟩, .int .i64 3, .int .i64 1, .string ⟨#[]⟩] 59)).alloc (.cells #[.int .i64 0, .int .i64 1, .int .i64 2, .int .i64 3] 3)).alloc (.cells #[.int .i64 2] 3)) (((w.alloc (.cells #[.int .i64 0, .int .i64 (-1), .string ⟨#[]⟩, .int .i64 2, .int .i64 0, .string ⟨#[]⟩, .int .i64 3, .int .i64 1, .string ⟨#[]⟩, .int .i64 3, .int .i64 1, .string ⟨#[]⟩] 59)).alloc (.cells #[.int .i64 0, .int .i64 1, .int .i64 2, .int .i64 3] 3)).alloc (.cells #[.int .i64 2] 3)).heap.size (some ⟨w.heap.size + 1 + 1, 0, none⟩) 1 [2] := z2 ▸ r2
  have FL := Lib.hid (lS_lit (((w.alloc (.cells #[.int .i64 0, .int .i64 (-1), .string ⟨#[]⟩, .int .i64 2, .int .i64 0, .string ⟨#[]⟩, .int .i64 3, .int .i64 1, .string ⟨#[]⟩, .int .i64 3, .int .i64 1, .string ⟨#[]⟩] 59)).alloc (.cells #[.int .i64 0, .int .i64 1, .int .i64 2, .int .i64 3] 3)).alloc (.cells #[.int .i64 2] 3)) (w.heap.size + 1 + 1) r3)
  rw [z1] at FU
  rw [z3] at FL
  clear z1 z2 z3 r2 r3
  have HG := Lib.hid ((((hG.next h1).next h2).next h3).next h4)
  have HB := Lib.hid (((h1.trans (h2.mono h1.size)).trans (h3.mono (h1.trans (h2.mono h1.size)).size)).trans (h4.mono ((h1.trans (h2.mono h1.size)).trans (h3.mono (h1.trans (h2.mono h1.size)).size)).size))
  clear h1 h2 h3 h4 hG
  go_enter Tryz.func7, Tryz.ntmps7
  go_wp2_with fail
  refine (s13_first H FG.out FU.out FL.out awS_few awS_ask1 (i64_of (by decide) (by decide)) (i64_of (by decide) (by decide)) HG.out awS_1.1 awS_1.2.1 awS_1.2.2).mono ?_
  rintro e w1 ⟨⟨A1, c1, rfl, hr1, hn1, hc1⟩, hb⟩
  have HBq := Lib.hid (HB.out.trans (hb.mono HB.out.size))
  clear HB
  have HB := HBq
  clear HBq
  have FGq := Lib.hid (FG.out.next hb)
  clear FG
  have FG := FGq
  clear FGq
  have FUq := Lib.hid (FU.out.next hb)
  clear FU
  have FU := FUq
  clear FUq
  have FLq := Lib.hid (FL.out.next hb)
  clear FL
  have FL := FLq
  clear FLq
  have HGq := Lib.hid (HG.out.next hb)
  clear HG
  have HG := HGq
  clear HGq
  clear hb
  clear hr1 hn1 hc1
  go_wp2_with fail
  refine (s13_first H FG.out FU.out FL.out awS_few awS_ask2 (i64_of (by decide) (by decide)) (i64_of (by decide) (by decide)) HG.out awS_2.1 awS_2.2.1 awS_2.2.2).mono ?_
  rintro e w2 ⟨⟨A2, c2, rfl, hr2, hn2, hc2⟩, hb⟩
  have HBq := Lib.hid (HB.out.trans (hb.mono HB.out.size))
  clear HB
  have HB := HBq
  clear HBq
  have FGq := Lib.hid (FG.out.next hb)
  clear FG
  have FG := FGq
  clear FGq
  have FUq := Lib.hid (FU.out.next hb)
  clear FU
  have FU := FUq
  clear FUq
  have FLq := Lib.hid (FL.out.next hb)
  clear FL
  have FL := FLq
  clear FLq
  have HGq := Lib.hid (HG.out.next hb)
  clear HG
  have HG := HGq
  clear HGq
  clear hb
  have R2 := Lib.hid hr2
  clear hr2 hn2 hc2
  obtain ⟨b, off, rfl, hbl, cc⟩ := R2.out.one (k := 0) (by decide)
  rw [Nat.add_zero] at cc
  rw [show ([3] : List Int).getD 0 0 = 3 from rfl] at cc
  go_wp2
  go_ret
  exact ⟨rfl, HB.out⟩

end Go.Proofs.YtpoalgkgomljmaaGreatDoor

namespace Go.Proofs.YtpoalgkgomljmaaGreatDoor
open Go.RowKit

set_option maxRecDepth 100000 in
set_option maxHeartbeats 8000000 in
theorem refMeets_any (a b c d : Int) (w : World) : Calls Tryz.prog 88 #[.int .i64 a, .int .i64 b, .int .i64 c, .int .i64 d] w fun e w' => e = .returned (.bool (meetsZ a b c d)) ∧ w = w' := by
  by_cases h1 : a < c
  · by_cases h2 : c < b
    · by_cases h3 : c < d
      · have e : meetsZ a b c d = true := decide_eq_true (by omega)
        rw [e]
        clear e
        have g1 : decide (a < c) = true := decide_eq_true (by omega)
        have g2 : decide (a ≤ c) = true := decide_eq_true (by omega)
        have g0 : decide (c ≤ c) = true := decide_eq_true (by omega)
        have g3 : decide (c < b) = true := decide_eq_true (by omega)
        have g4 : decide (c < d) = true := decide_eq_true (by omega)
        go_enter Tryz.func88, Tryz.ntmps88
        go_wp2
        go_ret
        exact ⟨rfl, rfl⟩
      · have e : meetsZ a b c d = false := decide_eq_false (by omega)
        rw [e]
        clear e
        have g1 : decide (a < c) = true := decide_eq_true (by omega)
        have g2 : decide (a ≤ c) = true := decide_eq_true (by omega)
        have g0 : decide (c ≤ c) = true := decide_eq_true (by omega)
        have g3 : decide (c < b) = true := decide_eq_true (by omega)
        have g4 : decide (c < d) = false := decide_eq_false (by omega)
        go_enter Tryz.func88, Tryz.ntmps88
        go_wp2
        go_ret
        exact ⟨rfl, rfl⟩
    · have e : meetsZ a b c d = false := decide_eq_false (by omega)
      rw [e]
      clear e
      have g1 : decide (a < c) = true := decide_eq_true (by omega)
      have g2 : decide (a ≤ c) = true := decide_eq_true (by omega)
      have g0 : decide (c ≤ c) = true := decide_eq_true (by omega)
      have g3 : decide (c < b) = false := decide_eq_false (by omega)
      go_enter Tryz.func88, Tryz.ntmps88
      go_wp2
      go_ret
      exact ⟨rfl, rfl⟩
  · by_cases h2 : a < b
    · by_cases h3 : a < d
      · have e : meetsZ a b c d = true := decide_eq_true (by omega)
        rw [e]
        clear e
        have g1 : decide (a < c) = false := decide_eq_false (by omega)
        have g2 : decide (c ≤ a) = true := decide_eq_true (by omega)
        have g0 : decide (a ≤ a) = true := decide_eq_true (by omega)
        have g3 : decide (a < b) = true := decide_eq_true (by omega)
        have g4 : decide (a < d) = true := decide_eq_true (by omega)
        go_enter Tryz.func88, Tryz.ntmps88
        go_wp2
        go_ret
        exact ⟨rfl, rfl⟩
      · have e : meetsZ a b c d = false := decide_eq_false (by omega)
        rw [e]
        clear e
        have g1 : decide (a < c) = false := decide_eq_false (by omega)
        have g2 : decide (c ≤ a) = true := decide_eq_true (by omega)
        have g0 : decide (a ≤ a) = true := decide_eq_true (by omega)
        have g3 : decide (a < b) = true := decide_eq_true (by omega)
        have g4 : decide (a < d) = false := decide_eq_false (by omega)
        go_enter Tryz.func88, Tryz.ntmps88
        go_wp2
        go_ret
        exact ⟨rfl, rfl⟩
    · have e : meetsZ a b c d = false := decide_eq_false (by omega)
      rw [e]
      clear e
      have g1 : decide (a < c) = false := decide_eq_false (by omega)
      have g2 : decide (c ≤ a) = true := decide_eq_true (by omega)
      have g0 : decide (a ≤ a) = true := decide_eq_true (by omega)
      have g3 : decide (a < b) = false := decide_eq_false (by omega)
      go_enter Tryz.func88, Tryz.ntmps88
      go_wp2
      go_ret
      exact ⟨rfl, rfl⟩
theorem refMeets_b {a b c d : Int} {w : World} {v : Bool} (h : meetsZ a b c d = v) : Calls Tryz.prog 88 #[.int .i64 a, .int .i64 b, .int .i64 c, .int .i64 d] w fun e w' => e = .returned (.bool v) ∧ Below w.heap.size w w' := by
  subst h
  exact (refMeets_any a b c d w).mono fun _ _ ⟨h1, h2⟩ => ⟨h1, by rw [← h2]; exact Below.refl _ _⟩

/-! Touch: two rows by rising numbers, walked side by side -/
theorem rise_lt {l : List Int} (h : rightB l = true) : ∀ {i j : Nat}, i < j → j < l.length → l.getD i 0 < l.getD j 0 := by
  induction l with
  | nil => intro i j _ h2; simp at h2
  | cons x r ih =>
    intro i j h1 h2
    obtain ⟨j', rfl⟩ : ∃ j', j = j' + 1 := ⟨j - 1, by omega⟩
    have hj : j' < r.length := by simpa using h2
    cases i with
    | zero =>
      rw [List.getD_cons_zero, List.getD_cons_succ]
      refine right_below h _ ?_
      rw [List.getD, List.getElem?_eq_getElem hj]
      exact List.getElem_mem hj
    | succ i =>
      rw [List.getD_cons_succ, List.getD_cons_succ]
      exact ih (right_tail h) (by omega) hj
theorem getD_mem {l : List Int} {i : Nat} (h : i < l.length) : l.getD i 0 ∈ l := by
  rw [List.getD, List.getElem?_eq_getElem h]; exact List.getElem_mem h
theorem mem_getD {l : List Int} {x : Int} (h : x ∈ l) : ∃ i, i < l.length ∧ l.getD i 0 = x := by
  obtain ⟨i, hi, e⟩ := List.getElem_of_mem h
  exact ⟨i, hi, by rw [List.getD, List.getElem?_eq_getElem hi]; exact e⟩
/-- nothing of the first i of one is in the other, and the other way round -/
structure NoneYet (a b : List Int) (i k : Nat) : Prop where
  left : ∀ j, j < i → a.getD j 0 ∉ b
  right : ∀ j, j < k → b.getD j 0 ∉ a
theorem NoneYet.go1 {a b : List Int} {i k : Nat} (_ : rightB a = true) (hb : rightB b = true) (h : NoneYet a b i k) (hi : i < a.length) (hk : k < b.length) (hlt : a.getD i 0 < b.getD k 0) : NoneYet a b (i + 1) k := by
  refine ⟨fun j hj => ?_, h.right⟩
  by_cases hji : j = i
  · subst hji
    intro hm
    obtain ⟨q, hq, e⟩ := mem_getD hm
    rcases Nat.lt_trichotomy q k with hqk | hqk | hqk
    · exact h.right q hqk (by rw [e]; exact getD_mem hi)
    · subst hqk; omega
    · have := rise_lt hb hqk hq; omega
  · exact h.left j (by omega)
theorem NoneYet.go2 {a b : List Int} {i k : Nat} (ha : rightB a = true) (_ : rightB b = true) (h : NoneYet a b i k) (hi : i < a.length) (hk : k < b.length) (hlt : b.getD k 0 < a.getD i 0) : NoneYet a b i (k + 1) := by
  refine ⟨h.left, fun j hj => ?_⟩
  by_cases hji : j = k
  · subst hji
    intro hm
    obtain ⟨q, hq, e⟩ := mem_getD hm
    rcases Nat.lt_trichotomy q i with hqk | hqk | hqk
    · exact h.left q hqk (by rw [e]; exact getD_mem hk)
    · subst hqk; omega
    · have := rise_lt ha hqk hq; omega
  · exact h.right j (by omega)
theorem NoneYet.done {a b : List Int} {i k : Nat} (h : NoneYet a b i k) (he : a.length ≤ i ∨ b.length ≤ k) : touchB a b = false := by
  refine Bool.eq_false_iff.2 fun ht => ?_
  obtain ⟨n, h1, h2⟩ := touch_iff.1 ht
  rcases he with he | he
  · obtain ⟨q, hq, e⟩ := mem_getD h1
    exact h.left q (by omega) (by rw [e]; exact h2)
  · obtain ⟨q, hq, e⟩ := mem_getD h2
    exact h.right q (by omega) (by rw [e]; exact h1)
set_option maxRecDepth 100000 in
set_option maxHeartbeats 8000000 in
theorem refTouch_any (A : Option Addr) (n c : Nat) (A2 : Option Addr) (n2 c2 : Nat) (a b : List Int) (w : World) (ha : RI w w.heap.size A n a) (hb : RI w w.heap.size A2 n2 b) (hn : n ≤ maxLen) (hn2 : n2 ≤ maxLen) (hra : rightB a = true) (hrb : rightB b = true) :
    Calls Tryz.prog 89 #[.slice A n c, .slice A2 n2 c2] w fun e w' => e = .returned (.bool (touchB a b)) ∧ Below w.heap.size w w' := by
  have HA := Lib.hid ha
  have HB := Lib.hid hb
  have LA := Lib.hid ha.1
  have LB := Lib.hid hb.1
  have RA := Lib.hid hra
  have RB := Lib.hid hrb
  obtain ⟨v, hv⟩ : ∃ v, touchB a b = v := ⟨_, rfl⟩
  have HV := Lib.hid hv
  rw [hv]
  unfold maxLen at *
  clear ha hb hra hrb hv
  go_enter Tryz.func89, Tryz.ntmps89
  go_wp2
  go_loopw [5, 6] (fun s5 s6 wr => ∃ i k q : Nat, s5 = .int .i64 i ∧ s6 = .int .i64 k ∧ i ≤ n ∧ k ≤ n2 ∧ NoneYet a b i k ∧ wr = w.drewN q) (fun s5 s6 _ => (n - (intOf s5).toNat) + (n2 - (intOf s6).toNat))
  case atStart => exact ⟨0, 0, 0, rfl, rfl, Nat.zero_le _, Nat.zero_le _, ⟨fun j hj => absurd hj (by omega), fun j hj => absurd hj (by omega)⟩, rfl⟩
  case round =>
    obtain ⟨i, k, q, rfl, rfl, hi, hk, hny, rfl⟩ := hrel
    have HNY := Lib.hid hny
    clear hny
    by_cases h1 : i < n
    · by_cases h2 : k < n2
      · obtain ⟨b1, o1, rfl, _, hc1⟩ := HA.out.one h1
        obtain ⟨b2, o2, rfl, _, hc2⟩ := HB.out.one h2
        have hla : i < a.length := by rw [LA.out]; exact h1
        have hlb : k < b.length := by rw [LB.out]; exact h2
        obtain ⟨x, hx⟩ : ∃ x, a.getD i 0 = x := ⟨_, rfl⟩
        obtain ⟨y, hy⟩ : ∃ y, b.getD k 0 = y := ⟨_, rfl⟩
        have HX := Lib.hid hx
        have HY := Lib.hid hy
        have HLA := Lib.hid hla
        have HLB := Lib.hid hlb
        rw [hx] at hc1
        rw [hy] at hc2
        clear hx hy hla hlb
        by_cases h3 : x = y
        · have hT : Hid (v = true) := Lib.hid (by
            rw [← HV.out]
            exact touch_iff.2 ⟨x, by rw [← HX.out]; exact getD_mem HLA.out, by rw [h3, ← HY.out]; exact getD_mem HLB.out⟩)
          have d3 : (x == y) = true := by simpa using h3
          subst h3
          go_wp2
          go_quiet (fail)
          go_wp2
          go_ret
          exact ⟨by rw [hT.out]; rfl, bel_more (bel_drew w q) _⟩
        · have d3 : (x == y) = false := by simpa using h3
          by_cases h4 : x < y
          · have d4 : decide (x < y) = true := decide_eq_true h4
            have HN : Hid (NoneYet a b (i + 1) k) := Lib.hid (HNY.out.go1 RA.out RB.out HLA.out HLB.out (by rw [HX.out, HY.out]; exact h4))
            clear h3 h4
            go_wp2
            go_quiet (fail)
            go_wp2
            go_quiet (fail)
            go_wp2
            go_roundw
            case rel => exact ⟨i + 1, k, _, by go_num, rfl, by omega, hk, HN.out, rfl⟩
            case measure => simp [intOf]; omega
          · have d4 : decide (x < y) = false := decide_eq_false h4
            have HN : Hid (NoneYet a b i (k + 1)) := Lib.hid (HNY.out.go2 RA.out RB.out HLA.out HLB.out (by rw [HX.out, HY.out]; omega))
            clear h3 h4
            go_wp2
            go_quiet (fail)
            go_wp2
            go_quiet (fail)
            go_wp2
            go_roundw
            case rel => exact ⟨i, k + 1, _, rfl, by go_num, hi, by omega, HN.out, rfl⟩
            case measure => simp [intOf]; omega
      · have hT : Hid (v = false) := Lib.hid (by rw [← HV.out]; exact HNY.out.done (.inr (by rw [LB.out]; omega)))
        have d2 : decide (k < n2) = false := decide_eq_false h2
        go_wp2
        go_ret
        exact ⟨by rw [hT.out]; rfl, bel_drew w _⟩
    · have hT : Hid (v = false) := Lib.hid (by rw [← HV.out]; exact HNY.out.done (.inl (by rw [LA.out]; omega)))
      have d1 : decide (i < n) = false := decide_eq_false h1
      go_wp2
      go_ret
      exact ⟨by rw [hT.out]; rfl, bel_drew w _⟩

end Go.Proofs.YtpoalgkgomljmaaGreatDoor
