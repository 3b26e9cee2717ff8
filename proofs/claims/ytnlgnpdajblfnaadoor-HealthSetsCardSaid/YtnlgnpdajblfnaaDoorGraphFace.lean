/- What the program's functions of layer 5 (graph) answer, as one list of contracts: the statements' walks lean on it alone. -/
import Derived.Test.YtnlgnpdajblfnaaDoorGraphWords
import Derived.Test.YtnlgnpdajblfnaaDoorSetFace
namespace Go.Proofs.YtnlgnpdajblfnaaDoor
open Go.RowKit

/-- what the statements ask about a graph, a list of numbers -/
structure GAsk (w : World) (A : Option Addr) (n c : Nat) (g : Gr) : Prop where
  reads : RG w w.heap.size A n g
  nil : A = none → c = 0
  cap : n ≤ c
  few : n ≤ 300
structure LAsk (w : World) (A : Option Addr) (n c : Nat) (l : List Int) : Prop where
  reads : RI w w.heap.size A n l
  nil : A = none → c = 0
  cap : n ≤ c
  few : n ≤ 300
  int : ∀ x ∈ l, I64 x
theorem GAsk.next {w w' : World} {A : Option Addr} {n c : Nat} {g : Gr} (h : GAsk w A n c g) (hb : Below w.heap.size w w') : GAsk w' A n c g := ⟨h.reads.next hb, h.nil, h.cap, h.few⟩
theorem LAsk.next {w w' : World} {A : Option Addr} {n c : Nat} {l : List Int} (h : LAsk w A n c l) (hb : Below w.heap.size w w') : LAsk w' A n c l := ⟨h.reads.next hb, h.nil, h.cap, h.few, h.int⟩

/-- a list of numbers, however long -/
structure WAsk (w : World) (A : Option Addr) (n c : Nat) (l : List Int) : Prop where
  reads : RI w w.heap.size A n l
  nil : A = none → c = 0
  cap : n ≤ c
  few : n ≤ maxLen
  int : ∀ x ∈ l, I64 x
theorem WAsk.next {w w' : World} {A : Option Addr} {n c : Nat} {l : List Int} (h : WAsk w A n c l) (hb : Below w.heap.size w w') : WAsk w' A n c l := ⟨h.reads.next hb, h.nil, h.cap, h.few, h.int⟩
theorem LAsk.wide {w : World} {A : Option Addr} {n c : Nat} {l : List Int} (h : LAsk w A n c l) : WAsk w A n c l := ⟨h.reads, h.nil, h.cap, Nat.le_trans h.few (by unfold maxLen; omega), h.int⟩

structure GraphOk : Prop where
  right : ∀ (A : Option Addr) (n c : Nat) (g : Gr) (w : World), GAsk w A n c g → Glob w →
    Calls Tryd.prog 19 #[.slice A n c] w fun e w' => e = .returned (.bool (rightG g)) ∧ Below w.heap.size w w'
  tag : ∀ (s : ByteArray) (w : World), s.size ≤ maxLen → Glob w →
    Calls Tryd.prog 39 #[.string s] w fun e w' => e = .returned (.bool (tagB s)) ∧ Below w.heap.size w w'
  under : ∀ (A : Option Addr) (n c : Nat) (g : Gr) (a : Int) (w : World), GAsk w A n c g → I64 a → Glob w →
    Calls Tryd.prog 15 #[.slice A n c, .int .i64 a] w (IPost (underL g a) w)
  above : ∀ (A : Option Addr) (n c : Nat) (g : Gr) (a : Int) (w : World), GAsk w A n c g → I64 a → Glob w →
    Calls Tryd.prog 13 #[.slice A n c, .int .i64 a] w (IPost (aboveL g a) w)
  whole : ∀ (A : Option Addr) (n c : Nat) (A2 : Option Addr) (n2 c2 : Nat) (g : Gr) (l : List Int) (w : World), GAsk w A n c g → LAsk w A2 n2 c2 l → Glob w →
    Calls Tryd.prog 11 #[.slice A n c, .slice A2 n2 c2] w (IPost (wholeL g l) w)

theorem ml300 {n : Nat} (h : n ≤ 300) : n ≤ maxLen := by unfold maxLen; omega
theorem calls_kinds {P : Program} {f : FuncId} {args : Array Value} {w : World} {v v' : Value} (h : Calls P f args w fun e w' => e = .returned v ∧ Below w.heap.size w w') (e : v = v') :
    Calls P f args w fun e w' => e = .returned v' ∧ Below w.heap.size w w' := by
  subst e; exact h
theorem i64_small {k : Nat} (h : k ≤ 300) : I64 (k : Int) := by unfold I64; omega

/-! The lists, as sets of numbers below 256 -/
section
variable {g : Gr}
theorem underL_len (a : Int) : (underL g a).length ≤ 256 := by
  unfold underL
  split
  · rename_i h
    have h1 := (rightG_is h.1).few
    exact Nat.le_trans (numsF_len _ _) h1
  · exact Nat.zero_le _
theorem aboveL_len (a : Int) : (aboveL g a).length ≤ 256 := by
  unfold aboveL
  split
  · rename_i h
    have h1 := (rightG_is h.1).few
    exact Nat.le_trans (numsF_len _ _) (by omega)
  · exact Nat.zero_le _
theorem wholeL_len (l : List Int) : (wholeL g l).length ≤ 256 := by
  unfold wholeL
  split
  · rename_i h
    unfold wholeOk at h
    rw [Bool.and_eq_true, Bool.and_eq_true] at h
    exact Nat.le_trans (numsF_len _ _) (rightG_is h.1.1).few
  · exact Nat.zero_le _
theorem nodesL_len : (nodesL g).length ≤ 256 := by
  unfold nodesL
  split
  · rename_i h
    exact Nat.le_trans (numsF_len _ _) (rightG_is h).few
  · exact Nat.zero_le _
theorem numsF_i64 {p : Nat → Bool} {n : Nat} (hn : n ≤ 300) : ∀ x ∈ numsF p n, I64 x := by
  intro x hx
  obtain ⟨k, hk, _, rfl⟩ := mem_numsF.1 hx
  exact i64_small (by omega)
theorem underL_i64 (a : Int) : ∀ x ∈ underL g a, I64 x := by
  unfold underL
  split
  · rename_i h
    have h1 := (rightG_is h.1).few
    exact numsF_i64 (by omega)
  · intro x hx; cases hx
theorem wholeL_i64 (l : List Int) : ∀ x ∈ wholeL g l, I64 x := by
  unfold wholeL
  split
  · rename_i h
    unfold wholeOk at h
    rw [Bool.and_eq_true, Bool.and_eq_true] at h
    have h1 := (rightG_is h.1.1).few
    exact numsF_i64 (by omega)
  · intro x hx; cases hx
end

end Go.Proofs.YtnlgnpdajblfnaaDoor
