/- What the program's functions of layer 5 (graph) answer, as one list of contracts: the statements' walks lean on it alone. What the program's functions of layer 7 (spec) answer, as one list of contracts: the statements' walks lean on it alone. Regions that draw their order and whose callees may make memory of their own, but hand back plain values: walked once, in the order of the text, in the class of all worlds that keep what was there. No program's text is walked here. What the program's functions of layer 9 (match) answer, as one list of contracts: the statements' walks lean on it alone. What the program's functions of layer 13 (slot) answer, as one list of contracts: the statements' walks lean on it alone. Written by gen/gen_slot.py. What the program's functions of layer 10 (held) answer, as one list of contracts: the statements' walks lean on it alone. Written by gen/gen_heldface.py. The fixed answers that the statements of layer 13 ask for first, as a walk over the contracts. Written by gen/gen_slot.py. The reference's small questions of layer 10: do two spans meet, have two sets a number in common, may a holding be, do two holdings meet. Written by gen/gen_heldref1.py. The reference's May and clash of layer 10. Written by gen/gen_heldref2.py. The reference's Right and At of layer 10. Written by gen/gen_heldref3.py. The reference's One, Same, At and Short of layer 10. Written by gen/gen_heldref4.py. What the reference's Which answers: of two lists of int, the numbers that are in either, in both, or in the first alone. The reference's Busy and Short of layer 10. Written by gen/gen_heldref5.py. Words for memory: several elements appended at once to an owned row. General: nothing of the program stands here. Words for memory: all blocks but one are as they were. General: nothing of the program stands here. -/
import Derived.Test.YtpoalgkgomljmaaDoorMg05
import Derived.Test.YtpoalgkgomljmaaDoorMg02
import Derived.Test.YtpoalgkgomljmaaDoorMg03
import Derived.BigQuiet
import Derived.Deep.RegionHeld3
import Derived.Test.YtpoalgkgomljmaaDoorMg01
import Derived.Test.YtpoalgkgomljmaaDoorMg04
import Derived.LoopTactic
import Derived.Deep.QuietTactic
namespace Go.Proofs.YtpoalgkgomljmaaDoor
open Go.RowKit

/-- what the statements ask about a graph, a list of numbers -/
structure GAsk (w : World) (A : Option Addr) (n c : Nat) (g : Gr) : Prop where
  reads : RG w w.heap.size A n g
  nil : A = none → c = 0
  cap : n ≤ c
  few : n ≤ 300
structure LAsk (w : World) (A : Option Addr) (n c : Nat) (l : List Int) : Prop where
  reads : RI w w.heap.size A n l
  nil : A = none → c = 0
  cap : n ≤ c
  few : n ≤ 300
  int : ∀ x ∈ l, I64 x
theorem GAsk.next {w w' : World} {A : Option Addr} {n c : Nat} {g : Gr} (h : GAsk w A n c g) (hb : Below w.heap.size w w') : GAsk w' A n c g := ⟨h.reads.next hb, h.nil, h.cap, h.few⟩
theorem LAsk.next {w w' : World} {A : Option Addr} {n c : Nat} {l : List Int} (h : LAsk w A n c l) (hb : Below w.heap.size w w') : LAsk w' A n c l := ⟨h.reads.next hb, h.nil, h.cap, h.few, h.int⟩

/-- a list of numbers, however long -/
structure WAsk (w : World) (A : Option Addr) (n c : Nat) (l : List Int) : Prop where
  reads : RI w w.heap.size A n l
  nil : A = none → c = 0
  cap : n ≤ c
  few : n ≤ maxLen
  int : ∀ x ∈ l, I64 x
theorem WAsk.next {w w' : World} {A : Option Addr} {n c : Nat} {l : List Int} (h : WAsk w A n c l) (hb : Below w.heap.size w w') : WAsk w' A n c l := ⟨h.reads.next hb, h.nil, h.cap, h.few, h.int⟩
theorem LAsk.wide {w : World} {A : Option Addr} {n c : Nat} {l : List Int} (h : LAsk w A n c l) : WAsk w A n c l := ⟨h.reads, h.nil, h.cap, Nat.le_trans h.few (by unfold maxLen; omega), h.int⟩

structure GraphOk : Prop where
  right : ∀ (A : Option Addr) (n c : Nat) (g : Gr) (w : World), GAsk w A n c g → Glob w →
    Calls Tryd.prog 47 #[.slice A n c] w fun e w' => e = .returned (.bool (rightG g)) ∧ Below w.heap.size w w'
  tag : ∀ (s : ByteArray) (w : World), s.size ≤ maxLen → Glob w →
    Calls Tryd.prog 44 #[.string s] w fun e w' => e = .returned (.bool (tagB s)) ∧ Below w.heap.size w w'
  under : ∀ (A : Option Addr) (n c : Nat) (g : Gr) (a : Int) (w : World), GAsk w A n c g → I64 a → Glob w →
    Calls Tryd.prog 49 #[.slice A n c, .int .i64 a] w (IPost (underL g a) w)
  nodes : ∀ (A : Option Addr) (n c : Nat) (g : Gr) (w : World), GAsk w A n c g → Glob w →
    Calls Tryd.prog 51 #[.slice A n c] w (IPost (nodesL g) w)

theorem ml300 {n : Nat} (h : n ≤ 300) : n ≤ maxLen := by unfold maxLen; omega
theorem calls_kinds {P : Program} {f : FuncId} {args : Array Value} {w : World} {v v' : Value} (h : Calls P f args w fun e w' => e = .returned v ∧ Below w.heap.size w w') (e : v = v') :
    Calls P f args w fun e w' => e = .returned v' ∧ Below w.heap.size w w' := by
  subst e; exact h
theorem i64_small {k : Nat} (h : k ≤ 300) : I64 (k : Int) := by unfold I64; omega

/-! The lists, as sets of numbers below 256 -/
section
variable {g : Gr}
theorem underL_len (a : Int) : (underL g a).length ≤ 256 := by
  unfold underL
  split
  · rename_i h
    have h1 := (rightG_is h.1).few
    exact Nat.le_trans (numsF_len _ _) h1
  · exact Nat.zero_le _
theorem aboveL_len (a : Int) : (aboveL g a).length ≤ 256 := by
  unfold aboveL
  split
  · rename_i h
    have h1 := (rightG_is h.1).few
    exact Nat.le_trans (numsF_len _ _) (by omega)
  · exact Nat.zero_le _
theorem wholeL_len (l : List Int) : (wholeL g l).length ≤ 256 := by
  unfold wholeL
  split
  · rename_i h
    unfold wholeOk at h
    rw [Bool.and_eq_true, Bool.and_eq_true] at h
    exact Nat.le_trans (numsF_len _ _) (rightG_is h.1.1).few
  · exact Nat.zero_le _
theorem nodesL_len : (nodesL g).length ≤ 256 := by
  unfold nodesL
  split
  · rename_i h
    exact Nat.le_trans (numsF_len _ _) (rightG_is h).few
  · exact Nat.zero_le _
theorem numsF_i64 {p : Nat → Bool} {n : Nat} (hn : n ≤ 300) : ∀ x ∈ numsF p n, I64 x := by
  intro x hx
  obtain ⟨k, hk, _, rfl⟩ := mem_numsF.1 hx
  exact i64_small (by omega)
theorem underL_i64 (a : Int) : ∀ x ∈ underL g a, I64 x := by
  unfold underL
  split
  · rename_i h
    have h1 := (rightG_is h.1).few
    exact numsF_i64 (by omega)
  · intro x hx; cases hx
theorem wholeL_i64 (l : List Int) : ∀ x ∈ wholeL g l, I64 x := by
  unfold wholeL
  split
  · rename_i h
    unfold wholeOk at h
    rw [Bool.and_eq_true, Bool.and_eq_true] at h
    have h1 := (rightG_is h.1.1).few
    exact numsF_i64 (by omega)
  · intro x hx; cases hx
end

end Go.Proofs.YtpoalgkgomljmaaDoor

namespace Go.Proofs.YtpoalgkgomljmaaDoor
open Go.RowKit

structure SpecOk : Prop where
  right : ∀ (s : Sp) (w : World), SAsk s → Glob w → Calls Tryd.prog 31 #[spV s] w fun e w' => e = .returned (.bool (rightS s)) ∧ Below w.heap.size w w'
  ends : ∀ (s : Sp) (a : Int) (w : World), SAsk s → I64 a → Glob w → Calls Tryd.prog 20 #[spV s, .int .i64 a] w fun e w' => e = .returned (.int .i64 (endsS s a)) ∧ Below w.heap.size w w'

section
variable (H : SpecOk) {s t : Sp} {w : World} (hs : SAsk s) (hG : Glob w)
include H hs hG
theorem s7_right {b : Bool} (h : rightS s = b) : Calls Tryd.prog 31 #[.agg #[.int .i64 s.nodes, .int .i64 s.cores, .int .i64 s.gpus, .string s.tag, .bool s.whole, .int .i64 s.long, .int .i64 s.prio]] w fun e w' => e = .returned (.bool b) ∧ Below w.heap.size w w' := by
  subst h; exact H.right s w hs hG
theorem s7_ends {a r : Int} (ha : I64 a) (h : endsS s a = r) : Calls Tryd.prog 20 #[.agg #[.int .i64 s.nodes, .int .i64 s.cores, .int .i64 s.gpus, .string s.tag, .bool s.whole, .int .i64 s.long, .int .i64 s.prio], .int .i64 a] w fun e w' => e = .returned (.int .i64 r) ∧ Below w.heap.size w w' := by
  subst h; exact H.ends s a w hs ha hG
end
theorem i64_of {x : Int} (h1 : -2000000000000 ≤ x) (h2 : x ≤ 2000000000000) : I64 x := by unfold I64; omega

end Go.Proofs.YtpoalgkgomljmaaDoor

namespace Go.Proofs.YtpoalgkgomljmaaDoor
open Go.RowKit

/-- a world that keeps all that was there in w -/
structure Later (w : World) where
  now : World
  bel : Below w.heap.size w now
instance (w : World) : Nonempty (Later w) := ⟨⟨w, Below.refl _ _⟩⟩
theorem below_drew1 (w : World) : Below w.heap.size w w.drew := bel_drew w 1
theorem wp_region_later {P : Program} {id : Nat} {Q : Exit → Act → World → Prop} {a : Act} {w : World} {l : List Oper} (hm : P.follows .mixedOrders = true) (hB : Region.lexB .any l.toArray = true)
    (h : wpQuiet P l.toArray (fun w' => ∃ p : Later w, w' = p.now) (fun a' => ∀ w', (∃ p : Later w, w' = p.now) → Q .normal a' w') l a) : (Code.region id l.toArray true).wp P Q a w :=
  wp_region_quiet (C := fun w' => ∃ p : Later w, w' = p.now) hm hB ⟨⟨w.drew, below_drew1 w⟩, rfl⟩ (by simpa using h)
theorem Calls.later_of {P : Program} {f : FuncId} {args : Array Value} {w : World} {p : Later w} {v : Value} (h : Calls P f args p.now fun e w' => e = .returned v ∧ Below p.now.heap.size p.now w') :
    Calls P f args p.now fun e w'' => e = .returned v ∧ ∃ q : Later w, w'' = q.now :=
  h.mono fun _ w' hz => ⟨hz.1, ⟨w', p.bel.trans (hz.2.mono p.bel.size)⟩, rfl⟩
theorem Later.cell {w : World} {p : Later w} {a : Addr} {v : Value} (hl : a.block < w.heap.size) (h : w.cell? a = some v) : p.now.cell? a = some v := (p.bel.cell hl).trans h

/-! a cell that is carried from world to world -/
theorem bel_drew1 (w : World) : Below w.heap.size w w.drew := bel_drew w 1
theorem keep_cell {w wx : World} {p : Addr} {v : Value} (hl : p.block < w.heap.size) (h : w.cell? p = some v) (hb : Below w.heap.size w wx) : wx.cell? p = some v := (hb.cell hl).trans h
structure CellK (w : World) (p : Addr) (v : Value) : Prop where
  lt : p.block < w.heap.size
  at' : w.cell? p = some v
theorem CellK.next {w w' : World} {p : Addr} {v : Value} (h : CellK w p v) (hb : Below w.heap.size w w') : CellK w' p v := ⟨Nat.lt_of_lt_of_le h.lt hb.size, keep_cell h.lt h.at' hb⟩

end Go.Proofs.YtpoalgkgomljmaaDoor

namespace Go.Proofs.YtpoalgkgomljmaaDoor
open Go.RowKit

/-- numbers and a yes or no, as a result that may be asked about again -/
def FPost (l : List Int) (b : Bool) (w : World) (e : Ending) (w' : World) : Prop :=
  (∃ A c, e = .returned (.tuple #[.slice A l.length c, .bool b]) ∧ RI w' w'.heap.size A l.length l ∧ (A = none → c = 0) ∧ l.length ≤ c) ∧ Below w.heap.size w w'
structure MatchOk : Prop where
  find : ∀ (A : Option Addr) (n c : Nat) (A2 : Option Addr) (n2 c2 : Nat) (g : Gr) (F : List Int) (s : Sp) (w : World), GAsk w A n c g → LAsk w A2 n2 c2 F → SAsk s → Glob w →
    Calls Tryd.prog 22 #[.slice A n c, .slice A2 n2 c2, spV s] w (FPost (findL g F s) (hadB g F s) w)

section
variable (H : MatchOk) {A : Option Addr} {n c : Nat} {A2 : Option Addr} {n2 c2 : Nat} {g : Gr} {F : List Int} {s : Sp} {w : World}
include H
theorem m9_find (hg : GAsk w A n c g) (hf : LAsk w A2 n2 c2 F) (hs : SAsk s) (hG : Glob w) {l : List Int} {b : Bool} (h : findL g F s = l) (h2 : hadB g F s = b) :
    Calls Tryd.prog 22 #[.slice A n c, .slice A2 n2 c2, .agg #[.int .i64 s.nodes, .int .i64 s.cores, .int .i64 s.gpus, .string s.tag, .bool s.whole, .int .i64 s.long, .int .i64 s.prio]] w (FPost l b w) := by
  subst h h2; exact H.find A n c A2 n2 c2 g F s w hg hf hs hG
end
/-- a cell, kept from world to world -/
theorem cell_list {w : World} {A : Option Addr} {n k : Nat} {l : List Int} {x : Int} (h : RI w w.heap.size A n l) (hk : k < n) (hx : l.getD k 0 = x) : ∃ b off, A = some ⟨b, off, none⟩ ∧ CellK w ⟨b, off + k, none⟩ (.int .i64 x) := by
  obtain ⟨b, off, e, hl, hc⟩ := RI.one h hk
  rw [hx] at hc
  exact ⟨b, off, e, hl, hc⟩
theorem cell_tag {w : World} {A : Option Addr} {n k : Nat} {g : Gr} {t : ByteArray} (h : RG w w.heap.size A n g) (hk : k < n) (hx : gt g k = t) : ∃ b off, A = some ⟨b, off, none⟩ ∧ CellK w ⟨b, off + k * 3 + 2, none⟩ (.string t) := by
  obtain ⟨b, off, e, hl, _, _, hc, _⟩ := RG.one h hk
  rw [hx] at hc
  exact ⟨b, off, e, hl, hc⟩
/-- a field of a spec in its box is set -/
theorem BoxS.set {wr : World} {g j : Nat} {s s' : Sp} {v : Value} (h : BoxS wr g s) (e : (#[.int .i64 s.nodes, .int .i64 s.cores, .int .i64 s.gpus, .string s.tag, .bool s.whole, .int .i64 s.long, .int .i64 s.prio] : Array Value).setIfInBounds j v = #[.int .i64 s'.nodes, .int .i64 s'.cores, .int .i64 s'.gpus, .string s'.tag, .bool s'.whole, .int .i64 s'.long, .int .i64 s'.prio]) : BoxS (wr.setCell ⟨g, j, none⟩ v) g s' := by
  refine ⟨by simpa [World.setCell] using h.lt, ?_⟩
  show (wr.heap.modify g _)[g]? = _
  rw [Array.getElem?_modify, if_pos rfl, h.at']
  unfold spO
  simp only [Option.map_some]
  rw [← e]
  rfl
theorem str_none {s : ByteArray} (h : s.size = 0) : s.toList = [] ∧ s.toList.isEmpty = true ∧ (s.toList == []) = true ∧ (s.toList != []) = false := by
  have h1 : s.toList = [] := by rw [ByteArray.toList_eq, str_empty h]
  rw [h1]
  exact ⟨rfl, rfl, rfl, rfl⟩
theorem str_ne {a b : ByteArray} (h : a ≠ b) : (a.toList == b.toList) = false ∧ (a.toList != b.toList) = true ∧ ¬ a.toList = b.toList := by
  have h1 : ¬ a.toList = b.toList := by
    rw [ByteArray.toList_eq, ByteArray.toList_eq]
    intro e
    exact h (ByteArray.ext (Array.ext' e))
  exact ⟨beq_eq_false_iff_ne.2 h1, bne_iff_ne.2 h1, h1⟩
theorem suitsL_is {g : Gr} {F : List Int} {s : Sp} {x : Nat} (hx : x < g.length) : suitsL g F s (x : Int) = (mayB g F s && suitP g F s x) := by
  unfold suitsL
  rw [decide_eq_true (show (0 : Int) ≤ (x : Int) ∧ (x : Int) < (g.length : Int) by omega), Int.toNat_natCast, Bool.true_and]
theorem plain_ask {s : Sp} (h : SAsk s) : SAsk (plainS s) := ⟨h.nodes, h.cores, h.gpus, (Nat.zero_le _ : (⟨#[]⟩ : ByteArray).size ≤ maxLen), h.long, h.prio⟩
theorem findL_i64 {g : Gr} {F : List Int} {s : Sp} : ∀ x ∈ findL g F s, I64 x := by
  unfold findL
  split
  · rename_i h
    exact numsF_i64 (by have := (rightG_is (mayB_is (hadB_is.1 h).1).1).few; omega)
  · intro x hx; cases hx
theorem findL_few {g : Gr} {F : List Int} {s : Sp} : (findL g F s).length ≤ 256 := by
  unfold findL
  split
  · rename_i h
    exact Nat.le_trans (numsF_len _ _) (rightG_is (mayB_is (hadB_is.1 h).1).1).few
  · exact Nat.zero_le _
/-- what was found, as numbers that may be asked about -/
theorem find_lask {g : Gr} {F : List Int} {s : Sp} {w : World} {A : Option Addr} {c : Nat} (h : RI w w.heap.size A (findL g F s).length (findL g F s)) (h1 : A = none → c = 0) (h2 : (findL g F s).length ≤ c) : LAsk w A (findL g F s).length c (findL g F s) :=
  ⟨h, h1, h2, Nat.le_trans findL_few (by omega), findL_i64⟩
theorem under_lask {g : Gr} {a : Int} {w : World} {A : Option Addr} {c : Nat} (h : RI w w.heap.size A (underL g a).length (underL g a)) (h1 : A = none → c = 0) (h2 : (underL g a).length ≤ c) : LAsk w A (underL g a).length c (underL g a) :=
  ⟨h, h1, h2, Nat.le_trans (underL_len _) (by omega), underL_i64 _⟩
theorem nodesL_i64 {g : Gr} : ∀ x ∈ nodesL g, I64 x := by
  unfold nodesL
  split
  · rename_i h
    exact numsF_i64 (by have := (rightG_is h).few; omega)
  · intro x hx; cases hx
theorem nodes_lask {g : Gr} {w : World} {A : Option Addr} {c : Nat} (h : RI w w.heap.size A (nodesL g).length (nodesL g)) (h1 : A = none → c = 0) (h2 : (nodesL g).length ≤ c) : LAsk w A (nodesL g).length c (nodesL g) :=
  ⟨h, h1, h2, Nat.le_trans nodesL_len (by omega), nodesL_i64⟩

end Go.Proofs.YtpoalgkgomljmaaDoor

namespace Go.Proofs.YtpoalgkgomljmaaDoor
open Go.RowKit

/-- a time, numbers, and a yes or no -/
def FTPost (t : Int) (l : List Int) (b : Bool) (w : World) (e : Ending) (w' : World) : Prop :=
  (∃ A c, e = .returned (.tuple #[.int .i64 t, .slice A l.length c, .bool b]) ∧ RI w' w'.heap.size A l.length l ∧ (A = none → c = 0) ∧ l.length ≤ c) ∧ Below w.heap.size w w'
structure SlotOk : Prop where
  first : ∀ (A : Option Addr) (n c : Nat) (g : Gr) (A2 : Option Addr) (n2 c2 : Nat) (use : List Int) (A3 : Option Addr) (n3 c3 : Nat) (l : Tb) (s : Sp) (t u : Int) (w : World), GAsk w A n c g → LAsk w A2 n2 c2 use → TAsk w A3 n3 c3 l → FewT l → SAsk s → I64 t → I64 u → Glob w → Calls Tryd.prog 8 #[.slice A n c, .slice A2 n2 c2, .slice A3 n3 c3, .agg #[.int .i64 s.nodes, .int .i64 s.cores, .int .i64 s.gpus, .string s.tag, .bool s.whole, .int .i64 s.long, .int .i64 s.prio], .int .i64 t, .int .i64 u] w (FTPost (firstAtS g use l s t u) (firstLS g use l s t u) (firstBS g use l s t u) w)

section
variable (H : SlotOk) {A A2 A3 A4 : Option Addr} {n c n2 c2 n3 c3 n4 c4 : Nat} {g : Gr} {use : List Int} {l : Tb} {s : Sp} {t u : Int} {ws : List Wn} {w : World}
include H
theorem s13_first (hg : GAsk w A n c g) (hu : LAsk w A2 n2 c2 use) (hl : TAsk w A3 n3 c3 l) (hf : FewT l) (hs : SAsk s) (ht : I64 t) (hv : I64 u) (hG : Glob w) {x : Int} {r : List Int} {b : Bool} (e0 : firstAtS g use l s t u = x) (e1 : firstLS g use l s t u = r) (e2 : firstBS g use l s t u = b) : Calls Tryd.prog 8 #[.slice A n c, .slice A2 n2 c2, .slice A3 n3 c3, .agg #[.int .i64 s.nodes, .int .i64 s.cores, .int .i64 s.gpus, .string s.tag, .bool s.whole, .int .i64 s.long, .int .i64 s.prio], .int .i64 t, .int .i64 u] w (FTPost x r b w) := by
  subst e0 e1 e2; exact H.first A n c g A2 n2 c2 use A3 n3 c3 l s t u w hg hu hl hf hs ht hv hG
end

end Go.Proofs.YtpoalgkgomljmaaDoor

namespace Go.Proofs.YtpoalgkgomljmaaDoor
open Go.RowKit

structure HeldOk : Prop where
  right : ∀ (A : Option Addr) (n c : Nat) (l : Tb) (w : World), TAsk w A n c l → FewT l → Calls Tryd.prog 11 #[.slice A n c] w (fun e w' => e = .returned (.bool (rightT l)) ∧ Below w.heap.size w w')
  busy : ∀ (A : Option Addr) (n c : Nat) (l : Tb) (a b : Int) (w : World), TAsk w A n c l → FewT l → Calls Tryd.prog 24 #[.slice A n c, .int .i64 a, .int .i64 b] w (IPost (busyT l a b) w)
  ends : ∀ (A : Option Addr) (n c : Nat) (l : Tb) (z : Int) (w : World), TAsk w A n c l → FewT l → Calls Tryd.prog 19 #[.slice A n c, .int .i64 z] w (IPost (endsT l z) w)

section
variable (H : HeldOk) {A : Option Addr} {n c : Nat} {A2 : Option Addr} {m c2 : Nat} {l : Tb} {h : Hd} {w : World}
include H
theorem h10_right (hl : TAsk w A n c l) (hf : FewT l) {v : Bool} (e : rightT l = v) : Calls Tryd.prog 11 #[.slice A n c] w fun e w' => e = .returned (.bool v) ∧ Below w.heap.size w w' := by
  subst e; exact H.right A n c l w hl hf
theorem h10_busy (hl : TAsk w A n c l) (hf : FewT l) {a b : Int} {r : List Int} (e : busyT l a b = r) : Calls Tryd.prog 24 #[.slice A n c, .int .i64 a, .int .i64 b] w (IPost r w) := by
  subst e; exact H.busy A n c l a b w hl hf
theorem h10_ends (hl : TAsk w A n c l) (hf : FewT l) {z : Int} {r : List Int} (e : endsT l z = r) : Calls Tryd.prog 19 #[.slice A n c, .int .i64 z] w (IPost r w) := by
  subst e; exact H.ends A n c l z w hl hf
end
section
variable {w : World}
/-- a list that a literal lays -/
theorem ri_litH (w : World) (xs : List Int) (cs : Array Value) (hc : cs.toList = xs.map (Value.int .i64)) : RI (w.alloc (.cells cs 3)) (w.alloc (.cells cs 3)).heap.size (some ⟨w.heap.size, 0, none⟩) xs.length xs := by
  refine ⟨rfl, fun _ => ⟨w.heap.size, 0, rfl, by simp, fun j hj => ?_⟩⟩
  rw [cell_of_row _ w.heap.size (0 + j) _ _ (0, 0) (heap_alloc_new w _), Nat.zero_add, ← Array.getElem?_toList, hc, List.getElem?_map, List.getElem?_eq_getElem hj, List.getD, List.getElem?_eq_getElem hj]
  rfl
theorem nil_ask (w : World) : TAsk w none 0 0 [] := ⟨RT.nil, fun _ => rfl, Nat.le_refl _, Nat.zero_le _⟩
/-- a table that was answered may be asked about -/
theorem ans_ask {A : Option Addr} {c : Nat} {l : Tb} (h : RT w w.heap.size A l.length l) (h1 : A = none → c = 0) (h2 : l.length ≤ c) (h3 : l.length ≤ maxLen) : TAsk w A l.length c l := ⟨h, h1, h2, h3⟩
/-- 30 holdings of 60 things -/
def shortHB (l : Tb) : Prop := l.length ≤ 30 ∧ ∀ h ∈ l, h.things.length ≤ 60
theorem short_few {l : Tb} (h : shortHB l) : FewT l := ⟨by have := h.1; omega, fun x hx => by have := h.2 x hx; omega⟩
end

end Go.Proofs.YtpoalgkgomljmaaDoor

namespace Go.Proofs.YtpoalgkgomljmaaDoor
open Go.RowKit

def gS : Gr := [⟨0, -1, ⟨#[]⟩⟩, ⟨2, 0, ⟨#[]⟩⟩, ⟨3, 1, ⟨#[]⟩⟩, ⟨3, 1, ⟨#[]⟩⟩]
def lS : Tb := [⟨1, [2], 0, 5⟩]
def sS1 : Sp := ⟨1, 2, 0, ⟨#[]⟩, false, 3, 0⟩
def sS2 : Sp := ⟨1, 1, 0, ⟨#[]⟩, false, 3, 0⟩
theorem awS_1 : firstAtS gS [0, 1, 2, 3] lS sS1 1 100 = 5 ∧ firstLS gS [0, 1, 2, 3] lS sS1 1 100 = [2, 3] ∧ firstBS gS [0, 1, 2, 3] lS sS1 1 100 = true := by decide +kernel
theorem awS_2 : firstAtS gS [0, 1, 2, 3] lS sS2 1 100 = 1 ∧ firstLS gS [0, 1, 2, 3] lS sS2 1 100 = [3] ∧ firstBS gS [0, 1, 2, 3] lS sS2 1 100 = true := by decide +kernel
theorem awS_few : FewT lS := ⟨by decide, fun h hh => by unfold lS at hh; simp at hh; subst hh; decide⟩
theorem awS_ask1 : SAsk sS1 := ⟨i64_of (by decide) (by decide), i64_of (by decide) (by decide), i64_of (by decide) (by decide), by decide, i64_of (by decide) (by decide), i64_of (by decide) (by decide)⟩
theorem awS_ask2 : SAsk sS2 := ⟨i64_of (by decide) (by decide), i64_of (by decide) (by decide), i64_of (by decide) (by decide), by decide, i64_of (by decide) (by decide), i64_of (by decide) (by decide)⟩
theorem gS_lit (w : World) : GAsk (w.alloc (.cells #[.int .i64 0, .int .i64 (-1), .string ⟨#[]⟩, .int .i64 2, .int .i64 0, .string ⟨#[]⟩, .int .i64 3, .int .i64 1, .string ⟨#[]⟩, .int .i64 3, .int .i64 1, .string ⟨#[]⟩] 37)) (some ⟨w.heap.size, 0, none⟩) 4 4 gS := by
  refine ⟨⟨rfl, fun _ => ⟨w.heap.size, 0, rfl, by show w.heap.size < _; simp, fun j x hx => ?_⟩⟩, (fun h => by cases h), by omega, by omega⟩
  have hj : j < 4 := (List.getElem?_eq_some_iff.1 hx).1
  have hcell : ∀ o, (w.alloc (.cells #[.int .i64 0, .int .i64 (-1), .string ⟨#[]⟩, .int .i64 2, .int .i64 0, .string ⟨#[]⟩, .int .i64 3, .int .i64 1, .string ⟨#[]⟩, .int .i64 3, .int .i64 1, .string ⟨#[]⟩] 37)).cell? ⟨w.heap.size, o, none⟩ = _ := fun o => World.cell?_alloc_at (w := w) _ _ w.heap.size o rfl
  rcases (show j = 0 ∨ j = 1 ∨ j = 2 ∨ j = 3 by omega) with rfl | rfl | rfl | rfl
  all_goals
    simp [gS] at hx
    subst hx
    refine ⟨_, rfl, fun i v hv => ?_, rfl, by unfold I64; simp, by unfold I64; simp, by unfold maxLen; decide⟩
    have hi : i < 3 := (List.getElem?_eq_some_iff.1 hv).1
    rcases (show i = 0 ∨ i = 1 ∨ i = 2 by omega) with rfl | rfl | rfl
    all_goals
      rw [hcell]
      simp at hv ⊢
      exact hv
theorem uS_lit (w : World) : LAsk (w.alloc (.cells #[.int .i64 0, .int .i64 1, .int .i64 2, .int .i64 3] 3)) (some ⟨w.heap.size, 0, none⟩) 4 4 [0, 1, 2, 3] :=
  ⟨ri_litH w [0, 1, 2, 3] _ rfl, fun e => (by cases e), Nat.le_refl _, by omega, fun x hx => (by simp at hx; unfold I64; omega)⟩
/-- a table of one holding that a literal lays -/
theorem lS_lit (w : World) (g : Nat) (hr : RI w w.heap.size (some ⟨g, 0, none⟩) 1 [2]) : TAsk (w.alloc (.cells #[.int .i64 1, .slice (some ⟨g, 0, none⟩) 1 1, .int .i64 0, .int .i64 5] 39)) (some ⟨w.heap.size, 0, none⟩) 1 1 lS := by
  have hh : HAsk w (some ⟨g, 0, none⟩) 1 1 ⟨1, [2], 0, 5⟩ := ⟨hr, fun e => (by cases e), Nat.le_refl _, by decide, i64_of (by decide) (by decide), i64_of (by decide) (by decide), i64_of (by decide) (by decide), fun n hn => by simp at hn; subst hn; exact i64_of (by decide) (by decide)⟩
  refine ⟨⟨rfl, fun _ => ⟨w.heap.size, 0, rfl, by show w.heap.size < _; simp, fun j x hx => ?_⟩⟩, fun e => (by cases e), Nat.le_refl _, by decide⟩
  have hj : j = 0 := by have := (List.getElem?_eq_some_iff.1 hx).1; simp [lS] at this; omega
  subst hj
  simp [lS] at hx
  subst hx
  refine ⟨[.int .i64 1, .slice (some ⟨g, 0, none⟩) 1 1, .int .i64 0, .int .i64 5], rfl, fun i v hv => ?_, ?_⟩
  rotate_left
  · have h2 := HAsk.el hh ((Below.refl w.heap.size w).alloc (Nat.le_refl _) (.cells #[.int .i64 1, .slice (some ⟨g, 0, none⟩) 1 1, .int .i64 0, .int .i64 5] 39))
    exact eh_steady.keep h2 (fun _ _ => rfl) (fun b hb => by show b < _; simp; exact Nat.lt_succ_of_lt hb)
  · rw [World.cell?_alloc_at (w := w) _ _ w.heap.size _ rfl, Nat.zero_mul, Nat.zero_add, Nat.zero_add, ← Array.getElem?_toList]
    exact hv

set_option maxRecDepth 100000 in
set_option maxHeartbeats 8000000 in
theorem awake13_any (H : SlotOk) (w : World) (hG : Glob w) : Calls Tryd.prog 5 #[] w fun e w' => e = .returned (.bool true) ∧ Below w.heap.size w w' := by
  have h1 : Below w.heap.size w (w.alloc (.cells #[.int .i64 0, .int .i64 (-1), .string ⟨#[]⟩, .int .i64 2, .int .i64 0, .string ⟨#[]⟩, .int .i64 3, .int .i64 1, .string ⟨#[]⟩, .int .i64 3, .int .i64 1, .string ⟨#[]⟩] 37)) := ((Below.refl w.heap.size w).alloc (Nat.le_refl _) (.cells #[.int .i64 0, .int .i64 (-1), .string ⟨#[]⟩, .int .i64 2, .int .i64 0, .string ⟨#[]⟩, .int .i64 3, .int .i64 1, .string ⟨#[]⟩, .int .i64 3, .int .i64 1, .string ⟨#[]⟩] 37))
  have h2 : Below (w.alloc (.cells #[.int .i64 0, .int .i64 (-1), .string ⟨#[]⟩, .int .i64 2, .int .i64 0, .string ⟨#[]⟩, .int .i64 3, .int .i64 1, .string ⟨#[]⟩, .int .i64 3, .int .i64 1, .string ⟨#[]⟩] 37)).heap.size (w.alloc (.cells #[.int .i64 0, .int .i64 (-1), .string ⟨#[]⟩, .int .i64 2, .int .i64 0, .string ⟨#[]⟩, .int .i64 3, .int .i64 1, .string ⟨#[]⟩, .int .i64 3, .int .i64 1, .string ⟨#[]⟩] 37)) ((w.alloc (.cells #[.int .i64 0, .int .i64 (-1), .string ⟨#[]⟩, .int .i64 2, .int .i64 0, .string ⟨#[]⟩, .int .i64 3, .int .i64 1, .string ⟨#[]⟩, .int .i64 3, .int .i64 1, .string ⟨#[]⟩] 37)).alloc (.cells #[.int .i64 0, .int .i64 1, .int .i64 2, .int .i64 3] 3)) := ((Below.refl (w.alloc (.cells #[.int .i64 0, .int .i64 (-1), .string ⟨#[]⟩, .int .i64 2, .int .i64 0, .string ⟨#[]⟩, .int .i64 3, .int .i64 1, .string ⟨#[]⟩, .int .i64 3, .int .i64 1, .string ⟨#[]⟩] 37)).heap.size (w.alloc (.cells #[.int .i64 0, .int .i64 (-1), .string ⟨#[]⟩, .int .i64 2, .int .i64 0, .string ⟨#[]⟩, .int .i64 3, .int .i64 1, .string ⟨#[]⟩, .int .i64 3, .int .i64 1, .string ⟨#[]⟩] 37))).alloc (Nat.le_refl _) (.cells #[.int .i64 0, .int .i64 1, .int .i64 2, .int .i64 3] 3))
  have h3 : Below ((w.alloc (.cells #[.int .i64 0, .int .i64 (-1), .string ⟨#[]⟩, .int .i64 2, .int .i64 0, .string ⟨#[]⟩, .int .i64 3, .int .i64 1, .string ⟨#[]⟩, .int .i64 3, .int .i64 1, .string ⟨#[]⟩] 37)).alloc (.cells #[.int .i64 0, .int .i64 1, .int .i64 2, .int .i64 3] 3)).heap.size ((w.alloc (.cells #[.int .i64 0, .int .i64 (-1), .string ⟨#[]⟩, .int .i64 2, .int .i64 0, .string ⟨#[]⟩, .int .i64 3, .int .i64 1, .string ⟨#[]⟩, .int .i64 3, .int .i64 1, .string ⟨#[]⟩] 37)).alloc (.cells #[.int .i64 0, .int .i64 1, .int .i64 2, .int .i64 3] 3)) (((w.alloc (.cells #[.int .i64 0, .int .i64 (-1), .string ⟨#[]⟩, .int .i64 2, .int .i64 0, .string ⟨#[]⟩, .int .i64 3, .int .i64 1, .string ⟨#[]⟩, .int .i64 3, .int .i64 1, .string ⟨#[]⟩] 37)).alloc (.cells #[.int .i64 0, .int .i64 1, .int .i64 2, .int .i64 3] 3)).alloc (.cells #[.int .i64 2] 3)) := ((Below.refl ((w.alloc (.cells #[.int .i64 0, .int .i64 (-1), .string ⟨#[]⟩, .int .i64 2, .int .i64 0, .string ⟨#[]⟩, .int .i64 3, .int .i64 1, .string ⟨#[]⟩, .int .i64 3, .int .i64 1, .string ⟨#[]⟩] 37)).alloc (.cells #[.int .i64 0, .int .i64 1, .int .i64 2, .int .i64 3] 3)).heap.size ((w.alloc (.cells #[.int .i64 0, .int .i64 (-1), .string ⟨#[]⟩, .int .i64 2, .int .i64 0, .string ⟨#[]⟩, .int .i64 3, .int .i64 1, .string ⟨#[]⟩, .int .i64 3, .int .i64 1, .string ⟨#[]⟩] 37)).alloc (.cells #[.int .i64 0, .int .i64 1, .int .i64 2, .int .i64 3] 3))).alloc (Nat.le_refl _) (.cells #[.int .i64 2] 3))
  have h4 : Below (((w.alloc (.cells #[.int .i64 0, .int .i64 (-1), .string ⟨#[]⟩, .int .i64 2, .int .i64 0, .string ⟨#[]⟩, .int .i64 3, .int .i64 1, .string ⟨#[]⟩, .int .i64 3, .int .i64 1, .string ⟨#[]⟩] 37)).alloc (.cells #[.int .i64 0, .int .i64 1, .int .i64 2, .int .i64 3] 3)).alloc (.cells #[.int .i64 2] 3)).heap.size (((w.alloc (.cells #[.int .i64 0, .int .i64 (-1), .string ⟨#[]⟩, .int .i64 2, .int .i64 0, .string ⟨#[]⟩, .int .i64 3, .int .i64 1, .string ⟨#[]⟩, .int .i64 3, .int .i64 1, .string ⟨#[]⟩] 37)).alloc (.cells #[.int .i64 0, .int .i64 1, .int .i64 2, .int .i64 3] 3)).alloc (.cells #[.int .i64 2] 3)) ((((w.alloc (.cells #[.int .i64 0, .int .i64 (-1), .string ⟨#[]⟩, .int .i64 2, .int .i64 0, .string ⟨#[]⟩, .int .i64 3, .int .i64 1, .string ⟨#[]⟩, .int .i64 3, .int .i64 1, .string ⟨#[]⟩] 37)).alloc (.cells #[.int .i64 0, .int .i64 1, .int .i64 2, .int .i64 3] 3)).alloc (.cells #[.int .i64 2] 3)).alloc (.cells #[.int .i64 1, .slice (some ⟨w.heap.size + 1 + 1, 0, none⟩) 1 1, .int .i64 0, .int .i64 5] 39)) := ((Below.refl (((w.alloc (.cells #[.int .i64 0, .int .i64 (-1), .string ⟨#[]⟩, .int .i64 2, .int .i64 0, .string ⟨#[]⟩, .int .i64 3, .int .i64 1, .string ⟨#[]⟩, .int .i64 3, .int .i64 1, .string ⟨#[]⟩] 37)).alloc (.cells #[.int .i64 0, .int .i64 1, .int .i64 2, .int .i64 3] 3)).alloc (.cells #[.int .i64 2] 3)).heap.size (((w.alloc (.cells #[.int .i64 0, .int .i64 (-1), .string ⟨#[]⟩, .int .i64 2, .int .i64 0, .string ⟨#[]⟩, .int .i64 3, .int .i64 1, .string ⟨#[]⟩, .int .i64 3, .int .i64 1, .string ⟨#[]⟩] 37)).alloc (.cells #[.int .i64 0, .int .i64 1, .int .i64 2, .int .i64 3] 3)).alloc (.cells #[.int .i64 2] 3))).alloc (Nat.le_refl _) (.cells #[.int .i64 1, .slice (some ⟨w.heap.size + 1 + 1, 0, none⟩) 1 1, .int .i64 0, .int .i64 5] 39))
  have FG := Lib.hid ((((gS_lit w).next h2).next h3).next h4)
  have FU := Lib.hid (((uS_lit (w.alloc (.cells #[.int .i64 0, .int .i64 (-1), .string ⟨#[]⟩, .int .i64 2, .int .i64 0, .string ⟨#[]⟩, .int .i64 3, .int .i64 1, .string ⟨#[]⟩, .int .i64 3, .int .i64 1, .string ⟨#[]⟩] 37))).next h3).next h4)
  have z1 : (w.alloc (.cells #[.int .i64 0, .int .i64 (-1), .string ⟨#[]⟩, .int .i64 2, .int .i64 0, .string ⟨#[]⟩, .int .i64 3, .int .i64 1, .string ⟨#[]⟩, .int .i64 3, .int .i64 1, .string ⟨#[]⟩] 37)).heap.size = w.heap.size + 1 := by simp
  have z2 : ((w.alloc (.cells #[.int .i64 0, .int .i64 (-1), .string ⟨#[]⟩, .int .i64 2, .int .i64 0, .string ⟨#[]⟩, .int .i64 3, .int .i64 1, .string ⟨#[]⟩, .int .i64 3, .int .i64 1, .string ⟨#[]⟩] 37)).alloc (.cells #[.int .i64 0, .int .i64 1, .int .i64 2, .int .i64 3] 3)).heap.size = w.heap.size + 1 + 1 := by simp
  have z3 : (((w.alloc (.cells #[.int .i64 0, .int .i64 (-1), .string ⟨#[]⟩, .int .i64 2, .int .i64 0, .string ⟨#[]⟩, .int .i64 3, .int .i64 1, .string ⟨#[]⟩, .int .i64 3, .int .i64 1, .string ⟨#[]⟩] 37)).alloc (.cells #[.int .i64 0, .int .i64 1, .int .i64 2, .int .i64 3] 3)).alloc (.cells #[.int .i64 2] 3)).heap.size = w.heap.size + 1 + 1 + 1 := by simp
  have r2 := ri_litH ((w.alloc (.cells #[.int .i64 0, .int .i64 (-1), .string ⟨#[]⟩, .int .i64 2, .int .i64 0, .string ⟨#[]⟩, .int .i64 3, .int .i64 1, .string ⟨#[]⟩, .int .i64 3, .int .i64 1, .string ⟨#[]⟩] 37)).alloc (.cells #[.int .i64 0, .int .i64 1, .int .i64 2, .int .i64 3] 3)) [2] #[.int .i64 2] rfl
  have r3 : RI (((w.alloc (.cells #[.int .i64 0, .int .i64 (-1), .string ⟨#[]⟩, .int .i64 2, .int .i64 0, .string ⟨#[]⟩, .int .i64 3, .int .i64 1, .string ⟨#[]⟩, .int .i64 3, .int .i64 1, .string ⟨#[]⟩] 37)).alloc (.cells #[.int .i64 0, .int .i64 1, .int .i64 2, .int .i64 3] 3)).alloc (.cells #[.int .i64 2] 3)) (((w.alloc (.cells #[.int .i64 0, .int .i64 (-1), .string ⟨#[]⟩, .int .i64 2, .int .i64 0, .string ⟨#[]⟩, .int .i64 3, .int .i64 1, .string ⟨#[]⟩, .int .i64 3, .int .i64 1, .string ⟨#[]⟩] 37)).alloc (.cells #[.int .i64 0, .int .i64 1, .int .i64 2, .int .i64 3] 3)).alloc (.cells #[.int .i64 2] 3)).heap.size (some ⟨w.heap.size + 1 + 1, 0, none⟩) 1 [2] := z2 ▸ r2
  have FL := Lib.hid (lS_lit (((w.alloc (.cells #[.int .i64 0, .int .i64 (-1), .string ⟨#[]⟩, .int .i64 2, .int .i64 0, .string ⟨#[]⟩, .int .i64 3, .int .i64 1, .string ⟨#[]⟩, .int .i64 3, .int .i64 1, .string ⟨#[]⟩] 37)).alloc (.cells #[.int .i64 0, .int .i64 1, .int .i64 2, .int .i64 3] 3)).alloc (.cells #[.int .i64 2] 3)) (w.heap.size + 1 + 1) r3)
  rw [z1] at FU
  rw [z3] at FL
  clear z1 z2 z3 r2 r3
  have HG := Lib.hid ((((hG.next h1).next h2).next h3).next h4)
  have HB := Lib.hid (((h1.trans (h2.mono h1.size)).trans (h3.mono (h1.trans (h2.mono h1.size)).size)).trans (h4.mono ((h1.trans (h2.mono h1.size)).trans (h3.mono (h1.trans (h2.mono h1.size)).size)).size))
  clear h1 h2 h3 h4 hG
  go_enter Tryd.func5, Tryd.ntmps5
  go_wp2_with fail
  refine (s13_first H FG.out FU.out FL.out awS_few awS_ask1 (i64_of (by decide) (by decide)) (i64_of (by decide) (by decide)) HG.out awS_1.1 awS_1.2.1 awS_1.2.2).mono ?_
  rintro e w1 ⟨⟨A1, c1, rfl, hr1, hn1, hc1⟩, hb⟩
  have HBq := Lib.hid (HB.out.trans (hb.mono HB.out.size))
  clear HB
  have HB := HBq
  clear HBq
  have FGq := Lib.hid (FG.out.next hb)
  clear FG
  have FG := FGq
  clear FGq
  have FUq := Lib.hid (FU.out.next hb)
  clear FU
  have FU := FUq
  clear FUq
  have FLq := Lib.hid (FL.out.next hb)
  clear FL
  have FL := FLq
  clear FLq
  have HGq := Lib.hid (HG.out.next hb)
  clear HG
  have HG := HGq
  clear HGq
  clear hb
  clear hr1 hn1 hc1
  go_wp2_with fail
  refine (s13_first H FG.out FU.out FL.out awS_few awS_ask2 (i64_of (by decide) (by decide)) (i64_of (by decide) (by decide)) HG.out awS_2.1 awS_2.2.1 awS_2.2.2).mono ?_
  rintro e w2 ⟨⟨A2, c2, rfl, hr2, hn2, hc2⟩, hb⟩
  have HBq := Lib.hid (HB.out.trans (hb.mono HB.out.size))
  clear HB
  have HB := HBq
  clear HBq
  have FGq := Lib.hid (FG.out.next hb)
  clear FG
  have FG := FGq
  clear FGq
  have FUq := Lib.hid (FU.out.next hb)
  clear FU
  have FU := FUq
  clear FUq
  have FLq := Lib.hid (FL.out.next hb)
  clear FL
  have FL := FLq
  clear FLq
  have HGq := Lib.hid (HG.out.next hb)
  clear HG
  have HG := HGq
  clear HGq
  clear hb
  have R2 := Lib.hid hr2
  clear hr2 hn2 hc2
  obtain ⟨b, off, rfl, hbl, cc⟩ := R2.out.one (k := 0) (by decide)
  rw [Nat.add_zero] at cc
  rw [show ([3] : List Int).getD 0 0 = 3 from rfl] at cc
  go_wp2
  go_ret
  exact ⟨rfl, HB.out⟩

end Go.Proofs.YtpoalgkgomljmaaDoor

namespace Go.Proofs.YtpoalgkgomljmaaDoor
open Go.RowKit


/-! Touch: two rows by rising numbers, walked side by side -/
theorem rise_lt {l : List Int} (h : rightB l = true) : ∀ {i j : Nat}, i < j → j < l.length → l.getD i 0 < l.getD j 0 := by
  induction l with
  | nil => intro i j _ h2; simp at h2
  | cons x r ih =>
    intro i j h1 h2
    obtain ⟨j', rfl⟩ : ∃ j', j = j' + 1 := ⟨j - 1, by omega⟩
    have hj : j' < r.length := by simpa using h2
    cases i with
    | zero =>
      rw [List.getD_cons_zero, List.getD_cons_succ]
      refine right_below h _ ?_
      rw [List.getD, List.getElem?_eq_getElem hj]
      exact List.getElem_mem hj
    | succ i =>
      rw [List.getD_cons_succ, List.getD_cons_succ]
      exact ih (right_tail h) (by omega) hj
theorem getD_mem {l : List Int} {i : Nat} (h : i < l.length) : l.getD i 0 ∈ l := by
  rw [List.getD, List.getElem?_eq_getElem h]; exact List.getElem_mem h
theorem mem_getD {l : List Int} {x : Int} (h : x ∈ l) : ∃ i, i < l.length ∧ l.getD i 0 = x := by
  obtain ⟨i, hi, e⟩ := List.getElem_of_mem h
  exact ⟨i, hi, by rw [List.getD, List.getElem?_eq_getElem hi]; exact e⟩
/-- nothing of the first i of one is in the other, and the other way round -/
structure NoneYet (a b : List Int) (i k : Nat) : Prop where
  left : ∀ j, j < i → a.getD j 0 ∉ b
  right : ∀ j, j < k → b.getD j 0 ∉ a
theorem NoneYet.go1 {a b : List Int} {i k : Nat} (_ : rightB a = true) (hb : rightB b = true) (h : NoneYet a b i k) (hi : i < a.length) (hk : k < b.length) (hlt : a.getD i 0 < b.getD k 0) : NoneYet a b (i + 1) k := by
  refine ⟨fun j hj => ?_, h.right⟩
  by_cases hji : j = i
  · subst hji
    intro hm
    obtain ⟨q, hq, e⟩ := mem_getD hm
    rcases Nat.lt_trichotomy q k with hqk | hqk | hqk
    · exact h.right q hqk (by rw [e]; exact getD_mem hi)
    · subst hqk; omega
    · have := rise_lt hb hqk hq; omega
  · exact h.left j (by omega)
theorem NoneYet.go2 {a b : List Int} {i k : Nat} (ha : rightB a = true) (_ : rightB b = true) (h : NoneYet a b i k) (hi : i < a.length) (hk : k < b.length) (hlt : b.getD k 0 < a.getD i 0) : NoneYet a b i (k + 1) := by
  refine ⟨h.left, fun j hj => ?_⟩
  by_cases hji : j = k
  · subst hji
    intro hm
    obtain ⟨q, hq, e⟩ := mem_getD hm
    rcases Nat.lt_trichotomy q i with hqk | hqk | hqk
    · exact h.left q hqk (by rw [e]; exact getD_mem hk)
    · subst hqk; omega
    · have := rise_lt ha hqk hq; omega
  · exact h.right j (by omega)
theorem NoneYet.done {a b : List Int} {i k : Nat} (h : NoneYet a b i k) (he : a.length ≤ i ∨ b.length ≤ k) : touchB a b = false := by
  refine Bool.eq_false_iff.2 fun ht => ?_
  obtain ⟨n, h1, h2⟩ := touch_iff.1 ht
  rcases he with he | he
  · obtain ⟨q, hq, e⟩ := mem_getD h1
    exact h.left q (by omega) (by rw [e]; exact h2)
  · obtain ⟨q, hq, e⟩ := mem_getD h2
    exact h.right q (by omega) (by rw [e]; exact h1)

end Go.Proofs.YtpoalgkgomljmaaDoor

namespace Go.Proofs.YtpoalgkgomljmaaDoor
open Go.RowKit



end Go.Proofs.YtpoalgkgomljmaaDoor

namespace Go.Proofs.YtpoalgkgomljmaaDoor
open Go.RowKit

theorem keepc {w wx : World} {p : Addr} {v : Value} (hl : p.block < w.heap.size) (h : w.cell? p = some v) (hb : Below w.heap.size w wx) : wx.cell? p = some v := (hb.cell hl).trans h
/-- the first i of a table stand right -/
structure RPH (l : Tb) (i : Nat) : Prop where
  may : ∀ j, j < i → MayH (l.getD j hd0)
  row : ∀ j k, j < k → k < i → Ahead (l.getD j hd0) (l.getD k hd0)
theorem getD_hd {l : Tb} {i : Nat} (h : i < l.length) : l.getD i hd0 = l[i] := by rw [List.getD, List.getElem?_eq_getElem h]; rfl
theorem rp_all {l : Tb} : RightT l ↔ l.length ≤ 256 ∧ RPH l l.length := by
  constructor
  · intro h
    refine ⟨h.few, fun j hj => by rw [getD_hd hj]; exact h.may _ (List.getElem_mem hj), fun j k hjk hk => ?_⟩
    rw [getD_hd hk, getD_hd (show j < l.length by omega)]
    exact List.pairwise_iff_getElem.1 h.row j k (by omega) hk hjk
  · rintro ⟨h1, h2⟩
    refine ⟨h1, fun x hx => ?_, List.pairwise_iff_getElem.2 fun j k hj hk hjk => ?_⟩
    · obtain ⟨j, hj, rfl⟩ := List.getElem_of_mem hx
      rw [← getD_hd hj]; exact h2.may j hj
    · rw [← getD_hd hj, ← getD_hd hk]; exact h2.row j k hjk hk
theorem rp_zero (l : Tb) : RPH l 0 := ⟨fun j hj => absurd hj (by omega), fun j k _ hk => absurd hk (by omega)⟩
theorem rp_less {l : Tb} {i j : Nat} (h : RPH l j) (hi : i ≤ j) : RPH l i := ⟨fun k hk => h.may k (by omega), fun a b h1 h2 => h.row a b h1 (by omega)⟩
theorem rp_succ {l : Tb} {i : Nat} (h : RPH l i) (h1 : MayH (l.getD i hd0)) (h2 : 0 < i → (l.getD (i - 1) hd0).id < (l.getD i hd0).id) (h3 : ∀ k, k < i → clashH (l.getD k hd0) (l.getD i hd0) = false) : RPH l (i + 1) := by
  refine ⟨fun j hj => ?_, fun j k hjk hk => ?_⟩
  · by_cases e : j = i
    · subst e; exact h1
    · exact h.may j (by omega)
  · by_cases e : k = i
    · subst e
      refine ⟨?_, h3 j hjk⟩
      have h4 := h2 (by omega)
      by_cases e2 : j = k - 1
      · subst e2; exact h4
      · have := (h.row j (k - 1) (by omega) (by omega)).1
        omega
    · exact h.row j k hjk (by omega)
theorem right_no {l : Tb} {i : Nat} (hi : i < l.length) (h : ¬ RPH l (i + 1)) : rightT l = false := by
  refine Bool.eq_false_iff.2 fun hr => h ?_
  exact rp_less (rp_all.1 (rightT_is.1 hr)).2 hi
theorem right_longH {l : Tb} (h : 256 < l.length) : rightT l = false := by
  refine Bool.eq_false_iff.2 fun hr => ?_
  have := (rightT_is.1 hr).few
  omega


end Go.Proofs.YtpoalgkgomljmaaDoor

namespace Go.Proofs.YtpoalgkgomljmaaDoor
open Go.RowKit

theorem hd_ext {a b : Hd} (h1 : a.id = b.id) (h2 : a.frm = b.frm) (h3 : a.to = b.to) (h4 : a.things = b.things) : a = b := by
  cases a; cases b; simp_all
def sameH (a b : Hd) : Bool := decide (a.id = b.id ∧ a.frm = b.frm ∧ a.to = b.to ∧ a.things = b.things)
theorem sameH_iff {a b : Hd} : sameH a b = true ↔ a = b := by
  unfold sameH
  rw [decide_eq_true_eq]
  exact ⟨fun h => hd_ext h.1 h.2.1 h.2.2.1 h.2.2.2, fun h => by subst h; exact ⟨rfl, rfl, rfl, rfl⟩⟩

theorem tb_ext {a b : Tb} {n : Nat} (h1 : a.length = n) (h2 : b.length = n) (h : ∀ j, j < n → a.getD j hd0 = b.getD j hd0) : a = b := by
  apply List.ext_getElem (by omega)
  intro j hj1 hj2
  have := h j (by omega)
  rwa [getD_hd hj1, getD_hd hj2] at this
def sameT' (a b : Tb) : Bool := decide (a.length = b.length ∧ ∀ j, j < a.length → sameH (a.getD j hd0) (b.getD j hd0) = true)
theorem sameT_iff {a b : Tb} : sameT' a b = true ↔ a = b := by
  unfold sameT'
  rw [decide_eq_true_eq]
  constructor
  · rintro ⟨h1, h2⟩
    exact tb_ext rfl h1.symm fun j hj => sameH_iff.1 (h2 j hj)
  · rintro rfl
    exact ⟨rfl, fun j _ => sameH_iff.2 rfl⟩

/-- the first holding of this number; -1: none is -/
def FirstAtH (l : Tb) (id r : Int) : Prop := (r = -1 ∧ ∀ j, j < l.length → (l.getD j hd0).id ≠ id) ∨ ∃ k : Nat, k < l.length ∧ r = (k : Int) ∧ (l.getD k hd0).id = id ∧ ∀ j, j < k → (l.getD j hd0).id ≠ id

end Go.Proofs.YtpoalgkgomljmaaDoor

namespace Go.Proofs.YtpoalgkgomljmaaDoor
open Go.RowKit
open Go.Shelf

theorem inB_eq (xs : List Int) (v : Int) : xs.contains v = inB xs v := rfl
theorem pickN_yes {p : Int → Bool} {k : Nat} (h : p (k : Int) = true) : pickN p 0 (k + 1) = pickN p 0 k ++ [(k : Int)] := by
  rw [pickN_snoc, Nat.zero_add, if_pos h]
theorem pickN_no {p : Int → Bool} {k : Nat} (h : p (k : Int) = false) : pickN p 0 (k + 1) = pickN p 0 k := by
  rw [pickN_snoc, Nat.zero_add, h]; simp

/-- where the loop stands -/
def WhichRel (p : Int → Bool) (w : World) (v i : Value) (wr : World) : Prop :=
  ∃ k : Nat, k ≤ 256 ∧ i = .int .i64 k ∧ wr.ownsRow w.heap.size 3 1 v (pickN p 0 k).length ((pickN p 0 k).map (Value.int .i64)) ∧ Below w.heap.size w wr

theorem which_step {p : Int → Bool} {w wr w1 : World} {v v' : Value} {k : Nat} {o : Obj} (hk : k < 256) (hp : p (k : Int) = true) (hb : Below w.heap.size w wr)
    (hown : wr.ownsRow w.heap.size 3 1 v (pickN p 0 k).length ((pickN p 0 k).map (Value.int .i64)))
    (hown' : w1.ownsRow w.heap.size 3 1 v' ((pickN p 0 k).length + 1) ((pickN p 0 k).map (Value.int .i64) ++ [.int .i64 (k : Int)])) (hgrow : (wr.alloc o).grownBy w1 v.ownBlock) :
    WhichRel p w v' (.int .i64 ((k : Int) + 1)) w1 := by
  refine ⟨k + 1, by omega, by go_num, ?_, (hb.alloc hb.size o).grown hgrow (by have := hb.size; simp; omega) (fun j hj => (hown.lt j hj).1)⟩
  rw [pickN_yes hp, List.length_append, List.map_append]
  exact hown'






end Go.Proofs.YtpoalgkgomljmaaDoor

namespace Go.Proofs.YtpoalgkgomljmaaDoor
open Go.RowKit


def shortT (l : Tb) : Bool := decide (l.length ≤ 30 ∧ ∀ j, j < l.length → (l.getD j hd0).things.length ≤ 60)
set_option maxRecDepth 100000 in
set_option maxHeartbeats 8000000 in
theorem refShortT_any (A : Option Addr) (n c : Nat) (l : Tb) (w : World) (hr : RT w w.heap.size A n l) (hn : n ≤ maxLen) :
    Calls Tryd.prog 10 #[.slice A n c] w fun e w' => e = .returned (.bool (shortT l)) ∧ w = w' := by
  have HR := Lib.hid hr
  have HL := Lib.hid hr.len
  obtain ⟨v, hv⟩ : ∃ v, shortT l = v := ⟨_, rfl⟩
  have HV0 := Lib.hid hv
  rw [hv]
  unfold maxLen at hn
  clear hr hv
  by_cases h30 : 30 < n
  · have d0 : decide (30 < n) = true := decide_eq_true h30
    have HV : Hid (v = false) := Lib.hid (by rw [← HV0.out]; exact decide_eq_false (fun h => by have := h.1; rw [HL.out] at this; omega))
    go_enter Tryd.func10, Tryd.ntmps10
    go_wp2
    go_ret
    exact ⟨by rw [HV.out]; rfl, rfl⟩
  · have d0 : decide (30 < n) = false := decide_eq_false h30
    go_enter Tryd.func10, Tryd.ntmps10
    go_wp2
    go_loopw [3] (fun kv wr => ∃ k : Nat, k ≤ n ∧ kv = .int .i64 k ∧ (∀ j, j < k → (l.getD j hd0).things.length ≤ 60) ∧ wr = w) (fun kv _ => n - (intOf kv).toNat)
    case atStart => exact ⟨0, Nat.zero_le _, rfl, fun j hj => absurd hj (by omega), rfl⟩
    case round =>
      obtain ⟨k, hk, rfl, hpre, rfl⟩ := hrel
      have HP := Lib.hid hpre
      clear hpre
      by_cases hlt : k < n
      · obtain ⟨b, off, A2, m2, c2, rfl, _, _, c1, _, _, hx⟩ := HR.out.one hlt
        have hm := hx.reads.1
        have hm2 := hx.few
        clear hx
        unfold maxLen at hm2
        by_cases h : 60 < m2
        · have d1 : decide (60 < m2) = true := decide_eq_true h
          have HV : Hid (v = false) := Lib.hid (by rw [← HV0.out]; exact decide_eq_false (fun h' => by have := h'.2 k (by rw [HL.out]; exact hlt); omega))
          clear hm
          go_wp2
          go_ret
          exact ⟨by rw [HV.out]; rfl, by trivial⟩
        · have d1 : decide (60 < m2) = false := decide_eq_false h
          have HN : Hid (∀ j, j < k + 1 → (l.getD j hd0).things.length ≤ 60) := Lib.hid (fun j hj => by
            by_cases e : j = k
            · subst e; omega
            · exact HP.out j (by omega))
          clear hm
          go_wp2
          go_roundw
          case rel => exact ⟨k + 1, by omega, by go_num, HN.out, by trivial⟩
          case measure => simp [intOf]; omega
      · have hkn : k = n := by omega
        have HV : Hid (v = true) := Lib.hid (by rw [← HV0.out]; exact decide_eq_true ⟨by rw [HL.out]; omega, fun j hj => HP.out j (by rw [hkn, ← HL.out]; exact hj)⟩)
        go_wp2
        go_ret
        exact ⟨by rw [HV.out]; rfl, by trivial⟩

end Go.Proofs.YtpoalgkgomljmaaDoor

namespace Go.Proofs.YtpoalgkgomljmaaDoor
open Go.RowKit

section
variable {α : Type} {E : Elem α} {C : Nat} {t : TypeId} {w w2 wr : World} {v : Value} {xs : List α}
theorem ON.app (hE : Steady E) (h : ON E C t w v xs wr) {ys : List α} {vs : List Value} {o : Obj} {fl : List Value} {g cap : Nat}
    (hfl : wr.ownsRow w.heap.size t C v xs.length fl) (hx : ∀ j y, ys[j]? = some y → E wr (fun b => b < wr.heap.size ∧ v.ownBlock ≠ some b) y ((vs.drop (j * C)).take C)) (_ : vs.length = ys.length * C)
    (hold : ∀ j y, xs[j]? = some y → E wr (fun b => b < wr.heap.size ∧ v.ownBlock ≠ some b) y ((fl.drop (j * C)).take C))
    (hown' : w2.ownsRow w.heap.size t C (.slice (some ⟨g, 0, none⟩) (xs.length + ys.length) cap) (xs.length + ys.length) (fl ++ vs)) (hgrow : (wr.alloc o).grownBy w2 v.ownBlock)
    (hat : v.ownBlock = some g ∨ wr.heap.size ≤ g) : ON E C t w (.slice (some ⟨g, 0, none⟩) (xs.length + ys.length) cap) (xs ++ ys) w2 := by
  have hB := h.below
  have hsz : wr.heap.size ≤ w2.heap.size := by have := hgrow.size; simp at this; omega
  have hkeep : ∀ b, (b < wr.heap.size ∧ v.ownBlock ≠ some b) → w2.heap[b]? = wr.heap[b]? := fun b hb =>
    (hgrow.block b (by simp; omega) (fun e => hb.2 e.symm)).trans (Below.heap_alloc wr o b hb.1)
  have hok : ∀ b, (b < wr.heap.size ∧ v.ownBlock ≠ some b) → (b < w2.heap.size ∧ (Value.slice (some ⟨g, 0, none⟩) (xs.length + ys.length) cap).ownBlock ≠ some b) := fun b hb =>
    ⟨by omega, fun e => by
      have e' : g = b := by simpa [Value.ownBlock] using e
      subst e'
      rcases hat with h' | h'
      · exact hb.2 h'
      · omega⟩
  refine ⟨fl ++ vs, by rw [List.length_append]; exact hown', (hB.alloc hB.size o).grown hgrow (by have := hB.size; simp; omega) (fun j hj => (hfl.lt j hj).1), fun j y hy => ?_⟩
  have hfll := hfl.1
  rcases Nat.lt_or_ge j xs.length with hj | hj
  · rw [List.getElem?_append_left hj] at hy
    have e := hE.keep (hold j y hy) hkeep hok
    have hlen : j * C + C ≤ fl.length := by rw [hfll, ← Nat.succ_mul]; exact Nat.mul_le_mul_right C hj
    rw [List.drop_append_of_le_length (by omega), List.take_append_of_le_length (by rw [List.length_drop]; omega)]
    exact e
  · rw [List.getElem?_append_right hj] at hy
    have e := hE.keep (hx (j - xs.length) y hy) hkeep hok
    have hd : (fl ++ vs).drop (j * C) = vs.drop ((j - xs.length) * C) := by
      rw [List.drop_append, List.drop_eq_nil_of_le (by rw [hfll]; exact Nat.mul_le_mul_right C hj), List.nil_append, hfll, ← Nat.sub_mul]
    rw [hd]
    exact e
/-- 'out = append(out, x, y ..)' of an owned row of elements: they have been laid into a block of their own -/
theorem wpList_append_ONs {P : Program} {ops : Array Oper} {rest : List Oper} {o : Oper} {a : Act} {Q : Exit → Act → World → Prop} (hgd : o.guard = none) (s x : Operand) (ty : TypeId)
    (ho : o.op = .call { callee := .builtin .append, args := #[s, x], argTypes := #[ty, ty] })
    (hE : Steady E) (h : ON E C t w v xs wr) (i : TypeInfo) (z : Value) (bytes : Nat) (ht : P.underlying ty = some (.slice t)) (hi : P.info? t = some i) (hz : i.zero = some z)
    (hsize : i.size = C) (hby : i.bytes = bytes) (hzs : z.cells.size = C) (hsz : 0 < C)
    (hs : a.eval s = v) (ys : List α) (m : Nat) (hm : ys.length = m) (hm0 : 0 < m) (cs : Array Value) (hx : a.eval x = .slice (some ⟨wr.heap.size, 0, none⟩) m m) (hl : cs.toList.length = m * C) (h1 : ∀ u ∈ cs.toList, u.oneCell' = true)
    (he : ∀ j y, ys[j]? = some y → E wr (fun b => b < wr.heap.size ∧ v.ownBlock ≠ some b) y ((cs.toList.drop (j * C)).take C))
    (h63 : xs.length + m ≤ maxLen) (hbytes : (xs.length + m) * bytes ≤ 140737488355328)
    (hk : ∀ v' w', ON E C t w v' (xs ++ ys) w' → wpList P ops Q rest (a.put o.dst v') w') : wpList P ops Q (o :: rest) a (wr.alloc (.cells cs t)) := by
  subst hm
  have hB := h.below
  obtain ⟨fl, h2, _, h4⟩ := id h
  refine wpList_append_lies (wr.alloc (.cells cs t)) hgd s x ty ho w.heap.size t i z C bytes ht hi hz hsize hby hzs hsz v xs.length fl hs (h2.alloc _) ⟨wr.heap.size, 0, none⟩ ys.length ys.length cs.toList hx hl
    (World.news_of_block (cs := cs) (t := t) (fr := (0, 0)) (heap_alloc_new wr _)) h1 hm0 h63 hbytes (by have := hB.size; simp; omega) _ rfl ?_
  intro g cap w2 hown' hgrow hat hlt
  exact hk _ _ (h.app hE h2 he hl h4 hown' hgrow (hat.imp id (fun e => by rw [e]; simp)))
end

end Go.Proofs.YtpoalgkgomljmaaDoor

namespace Go.Proofs.YtpoalgkgomljmaaDoor
open Go.RowKit

/-- all blocks but g are as they were -/
structure But (g : Nat) (w w' : World) : Prop where
  os : w'.os = w.os
  tape : w'.tape = w.tape
  output : w'.output = w.output
  size : w.heap.size ≤ w'.heap.size
  block : ∀ b, b < w.heap.size → b ≠ g → w'.heap[b]? = w.heap[b]?
section
variable {g : Nat} {w w1 w' : World}
theorem But.refl (g : Nat) (w : World) : But g w w := ⟨rfl, rfl, rfl, Nat.le_refl _, fun _ _ _ => rfl⟩
theorem But.trans (h : But g w w1) (k : But g w1 w') : But g w w' :=
  ⟨k.os.trans h.os, k.tape.trans h.tape, k.output.trans h.output, Nat.le_trans h.size k.size, fun b h1 h2 => (k.block b (Nat.lt_of_lt_of_le h1 h.size) h2).trans (h.block b h1 h2)⟩
theorem But.of (g : Nat) (h : Below w.heap.size w w') : But g w w' := ⟨h.os, h.tape, h.output, h.size, fun b h1 _ => h.block b h1⟩
theorem But.next (h : But g w w1) (k : Below w1.heap.size w1 w') : But g w w' := h.trans (But.of g k)
theorem But.below {B : Nat} (h : But g w w') (hB : B ≤ g) (hg : g < w.heap.size) : Below B w w' := ⟨h.os, h.tape, h.output, h.size, fun b hb => h.block b (by omega) (by omega)⟩
theorem But.set (h : But g w w1) (j : Nat) (u : Value) : But g w (w1.setCell ⟨g, j, none⟩ u) :=
  h.trans ⟨rfl, rfl, rfl, by simp [World.setCell], fun b _ hb => Below.heap_setCell _ _ _ _ hb⟩
theorem But.drewN (h : But g w w1) (q : Nat) : But g w (w1.drewN q) := h.next (bel_drew w1 q)
end

end Go.Proofs.YtpoalgkgomljmaaDoor
