/- Words for memory: all blocks but one are as they were. General: nothing of the program stands here. A row of elements of one's own: an element is stored; its cells, told flat. General: nothing of the program stands here. Words for memory: holdings whose things lie in blocks of some kind. What the program's functions of layer 10 (held) answer, as one list of contracts: the statements' walks lean on it alone. Written by gen/gen_heldface.py. The literals of the fixed answers that the statements of layers 13 and 14 ask for first. Written by gen/gen_slot.py. Plain facts for the reference's side of layer 13: what is free, thing by thing; the first slot, holding by holding. Plain facts: what sorting and Compact make of times: the times, rising, none twice. No program's text is walked here. The reference's small questions of layer 10: do two spans meet, have two sets a number in common, may a holding be, do two holdings meet. Written by gen/gen_heldref1.py. The reference's May and clash of layer 10. Written by gen/gen_heldref2.py. -/
import Derived.Test.YtchogijdkagiiaaGreatDoorMg01
import Derived.Lib.SliceRun
import Derived.Laws.OwnMore
import Derived.Test.YtchogijdkagiiaaGreatDoorMg04
import Derived.Test.YtchogijdkagiiaaGreatDoorMg02
import Derived.Test.YtchogijdkagiiaaGreatDoorMg03
import Derived.Lib.SlicesCompact
import Derived.LoopTactic
import Derived.Deep.QuietTactic
namespace Go.Proofs.YtchogijdkagiiaaGreatDoor
open Go.RowKit

/-- all blocks but g are as they were -/
structure But (g : Nat) (w w' : World) : Prop where
  os : w'.os = w.os
  tape : w'.tape = w.tape
  output : w'.output = w.output
  size : w.heap.size ≤ w'.heap.size
  block : ∀ b, b < w.heap.size → b ≠ g → w'.heap[b]? = w.heap[b]?
section
variable {g : Nat} {w w1 w' : World}
theorem But.refl (g : Nat) (w : World) : But g w w := ⟨rfl, rfl, rfl, Nat.le_refl _, fun _ _ _ => rfl⟩
theorem But.trans (h : But g w w1) (k : But g w1 w') : But g w w' :=
  ⟨k.os.trans h.os, k.tape.trans h.tape, k.output.trans h.output, Nat.le_trans h.size k.size, fun b h1 h2 => (k.block b (Nat.lt_of_lt_of_le h1 h.size) h2).trans (h.block b h1 h2)⟩
theorem But.of (g : Nat) (h : Below w.heap.size w w') : But g w w' := ⟨h.os, h.tape, h.output, h.size, fun b h1 _ => h.block b h1⟩
theorem But.next (h : But g w w1) (k : Below w1.heap.size w1 w') : But g w w' := h.trans (But.of g k)
theorem But.below {B : Nat} (h : But g w w') (hB : B ≤ g) (hg : g < w.heap.size) : Below B w w' := ⟨h.os, h.tape, h.output, h.size, fun b hb => h.block b (by omega) (by omega)⟩
theorem But.set (h : But g w w1) (j : Nat) (u : Value) : But g w (w1.setCell ⟨g, j, none⟩ u) :=
  h.trans ⟨rfl, rfl, rfl, by simp [World.setCell], fun b _ hb => Below.heap_setCell _ _ _ _ hb⟩
end

end Go.Proofs.YtchogijdkagiiaaGreatDoor

namespace Go.Proofs.YtchogijdkagiiaaGreatDoor
open Go.RowKit

section
variable {α : Type} {E : Elem α} {t : TypeId} {w wr w1 : World} {g n cap : Nat} {xs : List α}
/-- the cells of a list of elements, one behind the other -/
theorem flat_of {C : Nat} {ok : Nat → Prop} {b : Nat} : ∀ (xs : List α) (off : Nat), (∀ j x, xs[j]? = some x → ∃ vs : List Value, vs.length = C ∧ (∀ i v, vs[i]? = some v → w.cell? ⟨b, off + (j * C + i), none⟩ = some v) ∧ E w ok x vs) →
    ∃ fl : List Value, fl.length = xs.length * C ∧ (∀ j u, fl[j]? = some u → w.cell? ⟨b, off + j, none⟩ = some u) ∧ ∀ j x, xs[j]? = some x → E w ok x ((fl.drop (j * C)).take C)
  | [], off, _ => ⟨[], by simp, fun j u h => by simp at h, fun j x h => by simp at h⟩
  | x :: r, off, h => by
    obtain ⟨vs, h1, h2, h3⟩ := h 0 x rfl
    obtain ⟨fl, k1, k2, k3⟩ := flat_of (C := C) r (off + C) (fun j y hy => by
      obtain ⟨us, u1, u2, u3⟩ := h (j + 1) y (by simpa using hy)
      refine ⟨us, u1, fun i v hv => ?_, u3⟩
      have := u2 i v hv
      rw [show off + ((j + 1) * C + i) = off + C + (j * C + i) by rw [Nat.add_mul, Nat.one_mul]; omega] at this
      exact this)
    refine ⟨vs ++ fl, by rw [List.length_append, h1, k1, List.length_cons, Nat.add_mul, Nat.one_mul]; omega, fun j u hu => ?_, fun j y hy => ?_⟩
    · by_cases hj : j < vs.length
      · rw [List.getElem?_append_left hj] at hu
        have := h2 j u hu
        rwa [show off + (0 * C + j) = off + j by omega] at this
      · rw [List.getElem?_append_right (by omega)] at hu
        have := k2 _ u hu
        rwa [show off + C + (j - vs.length) = off + j by omega] at this
    · cases j with
      | zero =>
        have : x = y := by simpa using hy
        subst this
        rw [Nat.zero_mul, List.drop_zero, List.take_append_of_le_length (by omega), List.take_of_length_le (by omega)]
        exact h3
      | succ j =>
        have e := k3 j y (by simpa using hy)
        rw [show (j + 1) * C = vs.length + j * C by rw [Nat.add_mul, Nat.one_mul, h1]; omega, List.drop_append, List.drop_of_length_le (by omega), List.nil_append, show vs.length + j * C - vs.length = j * C by omega]
        exact e
/-- where a row of one's own lies -/
theorem ON.block {C : Nat} (h : ON E C t w (.slice (some ⟨g, 0, none⟩) n cap) xs wr) {i : Nat} (hi : i < n * C) : (∃ u, wr.cell? ⟨g, i, none⟩ = some u) ∧ wr.frozen? ⟨g, i, none⟩ = false := by
  obtain ⟨fl, h1, _⟩ := h
  have hn : n = xs.length := by
    rcases h1.2 with ⟨e, _⟩ | ⟨g', cap', cur, e, _⟩
    · cases e
    · injection e
  subst hn
  refine ⟨?_, h1.frozenAt i⟩
  rw [h1.cellAt i hi, List.getElem?_eq_getElem (by rw [h1.1]; exact hi)]
  exact ⟨_, rfl⟩
theorem ON.head {C : Nat} {A : Option Addr} (h : ON E C t w (.slice A n cap) xs wr) (hn : 0 < n) : ∃ g, A = some ⟨g, 0, none⟩ ∧ w.heap.size ≤ g ∧ g < wr.heap.size := by
  obtain ⟨fl, h1, _⟩ := h
  rcases id h1.2 with ⟨e, h0⟩ | ⟨g', cap', cur, e, _⟩
  · injection e with e1 e2 e3
    omega
  · injection e with e1 e2 e3
    subst e1
    exact ⟨g', rfl, h1.lt g' rfl⟩
end
/-- a row of one's own behind block B, whose elements reach blocks that are 'ok' -/
def RowQ {α : Type} (E : Elem α) (C : Nat) (t : TypeId) (ok : Nat → Prop) (B : Nat) (v : Value) (xs : List α) (wr : World) : Prop :=
  ∃ fl : List Value, wr.ownsRow B t C v xs.length fl ∧ ∀ j x, xs[j]? = some x → E wr ok x ((fl.drop (j * C)).take C)
section
variable {α : Type} {E : Elem α} {C : Nat} {t : TypeId} {ok : Nat → Prop} {B : Nat} {v : Value} {xs : List α} {w wr w1 : World}
theorem RowQ.keep (hE : Steady E) (h : RowQ E C t ok B v xs wr) (hk : ∀ b, ok b ∨ v.ownBlock = some b → w1.heap[b]? = wr.heap[b]?) : RowQ E C t ok B v xs w1 := by
  obtain ⟨fl, h1, h2⟩ := h
  refine ⟨fl, ⟨h1.1, h1.2.imp id ?_⟩, fun j x hx => hE.keep (h2 j x hx) (fun b hb => hk b (.inl hb)) (fun _ h => h)⟩
  rintro ⟨g, cap, cur, e1, e2, e3, e4⟩
  exact ⟨g, cap, cur, e1, e2, (hk g (.inr (by rw [e1]; rfl))).trans e3, e4⟩
theorem RowQ.on (hE : Steady E) (h : RowQ E C t ok w.heap.size v xs wr) (hb : Below w.heap.size w wr) (hok : ∀ b, ok b → b < wr.heap.size ∧ v.ownBlock ≠ some b) : ON E C t w v xs wr := by
  obtain ⟨fl, h1, h2⟩ := h
  exact ⟨fl, h1, hb, fun j x hx => hE.keep (h2 j x hx) (fun _ _ => rfl) hok⟩
theorem RowQ.own (h : RowQ E C t ok B v xs wr) : ∀ b, v.ownBlock = some b → B ≤ b ∧ b < wr.heap.size := by
  obtain ⟨fl, h1, _⟩ := h
  exact h1.lt
theorem RowQ.form (h : RowQ E C t ok B v xs wr) : ∃ A c, v = .slice A xs.length c ∧ (A = none → c = 0) ∧ xs.length ≤ c := by
  obtain ⟨fl, h1, _⟩ := h
  rcases h1.2 with ⟨hv, h0⟩ | ⟨g, cap, cur, hv, _, _, hc, _⟩
  · exact ⟨none, 0, by rw [hv, h0], fun _ => rfl, by omega⟩
  · exact ⟨_, cap, hv, (fun e => by cases e), hc⟩
/-- its k-th element -/
theorem RowQ.at {A : Option Addr} {n c : Nat} (h : RowQ E C t ok B (.slice A n c) xs wr) {k : Nat} (hk : k < n) : ∃ g x vs, A = some ⟨g, 0, none⟩ ∧ B ≤ g ∧ g < wr.heap.size ∧ xs[k]? = some x ∧ vs.length = C ∧ (∀ i v, vs[i]? = some v → wr.cell? ⟨g, k * C + i, none⟩ = some v) ∧ E wr ok x vs := by
  obtain ⟨fl, h1, h2⟩ := h
  rcases id h1.2 with ⟨e, h0⟩ | ⟨g, cap, cur, e, _⟩
  · injection e with _ e2 _
    omega
  · injection e with e1 e2 e3
    subst e1 e2 e3
    obtain ⟨hb1, hb2⟩ := h1.lt g rfl
    have hx : xs[k]? = some xs[k] := List.getElem?_eq_getElem hk
    have hle : k * C + C ≤ fl.length := by rw [h1.1, ← Nat.succ_mul]; exact Nat.mul_le_mul_right C hk
    refine ⟨g, xs[k], _, rfl, hb1, hb2, hx, by rw [List.length_take, List.length_drop]; omega, fun i v hv => ?_, h2 k _ hx⟩
    have hi : i < C := by
      have := (List.getElem?_eq_some_iff.1 hv).1
      rw [List.length_take] at this
      omega
    rw [List.getElem?_take_of_lt hi, List.getElem?_drop] at hv
    rw [h1.cellAt (k * C + i) (by rw [← h1.1]; omega)]
    exact hv
end

end Go.Proofs.YtchogijdkagiiaaGreatDoor

namespace Go.Proofs.YtchogijdkagiiaaGreatDoor
open Go.RowKit

/-- a holding whose things lie in blocks of which P holds -/
def EHp (P : Nat → Prop) : Elem Hd := fun w ok x vs => EH w (fun b => ok b ∧ P b) x vs
theorem ehp_steady (P : Nat → Prop) : Steady (EHp P) := ⟨fun h hk ho => eh_steady.keep h (fun b hb => hk b hb.1) (fun b hb => ⟨ho b hb.1, hb.2⟩)⟩
/-- what is answered: a table in new memory whose things lie in blocks of which P holds, and no error -/
def TPPost (P : Nat → Prop) (l : Tb) (w : World) (e : Ending) (w' : World) : Prop := ∃ v, e = .returned (.tuple #[v, .int .i64 0]) ∧ ON (EHp P) 4 41 w v l w'
section
variable {α β : Type} {E : Elem α} {E' : Elem β} {C : Nat} {t : TypeId} {w wr : World} {v : Value} {xs : List α} {ys : List β} {P : Nat → Prop} {l : Tb}
/-- a row, read as other things -/
theorem ON.conv (h : ON E C t w v xs wr) (hl : ys.length = xs.length) (hc : ∀ (j : Nat) (x : α) (y : β) (ok : Nat → Prop) (vs : List Value), xs[j]? = some x → ys[j]? = some y → E wr ok x vs → E' wr ok y vs) : ON E' C t w v ys wr := by
  obtain ⟨fl, h1, h2, h3⟩ := h
  refine ⟨fl, by rw [hl]; exact h1, h2, fun j y hy => ?_⟩
  have hj : j < xs.length := by rw [← hl]; exact (List.getElem?_eq_some_iff.1 hy).1
  exact hc j _ y _ _ (List.getElem?_eq_getElem hj) hy (h3 j _ (List.getElem?_eq_getElem hj))
/-- a row in new memory, read block by block -/
theorem on_reads (h : ON (EHp P) 4 t w v l wr) {A : Option Addr} {n c : Nat} (hv : v = .slice A n c) {ok : Nat → Prop} (h1 : ∀ b, w.heap.size ≤ b → b < wr.heap.size → ok b) (h2 : ∀ b, b < wr.heap.size → P b → ok b) : RN EH 4 wr ok A n l := by
  have h3 := h.reads (ehp_steady P) (by omega) hv
  refine ⟨h3.1, fun h0 => ?_⟩
  obtain ⟨b, off, e, hb, hc⟩ := h3.2 h0
  obtain ⟨fl, g1, _⟩ := h
  have hbw := (g1.lt b (by rw [hv, e]; rfl)).1
  refine ⟨b, off, e, h1 b hbw hb, fun j x hx => ?_⟩
  obtain ⟨vs, k1, k2, k3⟩ := hc j x hx
  exact ⟨vs, k1, k2, eh_steady.keep k3 (fun _ _ => rfl) (fun q hq => h2 q hq.1 hq.2)⟩
end
/-! holdings of which some are new: a mark beside each -/
def EHf (B : Nat) : Elem (Hd × Bool) := fun w ok p vs => EH w (fun b => ok b ∧ (p.2 = true → B ≤ b)) p.1 vs
theorem ehf_steady (B : Nat) : Steady (EHf B) := ⟨fun h hk ho => eh_steady.keep h (fun b hb => hk b hb.1) (fun b hb => ⟨ho b hb.1, hb.2⟩)⟩
def flagT (l : Tb) (k : Nat) : List (Hd × Bool) := (l.take k).map (fun x => (x, true)) ++ (l.drop k).map (fun x => (x, false))
section
variable {l : Tb} {k j : Nat} {x : Hd}
theorem flag_len : (flagT l k).length = l.length := by
  unfold flagT
  rw [List.length_append, List.length_map, List.length_map, List.length_take, List.length_drop]
  omega
theorem flag_at : (flagT l k)[j]? = (l[j]?).map fun x => (x, decide (j < k)) := by
  unfold flagT
  by_cases hj : j < k
  · by_cases hl : j < l.length
    · rw [List.getElem?_append_left (by rw [List.length_map, List.length_take]; omega), List.getElem?_map, List.getElem?_take_of_lt hj, decide_eq_true hj]
    · rw [List.getElem?_eq_none (by rw [List.length_append, List.length_map, List.length_map, List.length_take, List.length_drop]; omega), List.getElem?_eq_none (by omega)]; rfl
  · by_cases hl : j < l.length
    · have hk : ((l.take k).map (fun x => (x, true))).length = k := by rw [List.length_map, List.length_take]; omega
      rw [List.getElem?_append_right (by omega), hk, List.getElem?_map, List.getElem?_drop, show k + (j - k) = j by omega, decide_eq_false hj]
    · rw [List.getElem?_eq_none (by rw [List.length_append, List.length_map, List.length_map, List.length_take, List.length_drop]; omega), List.getElem?_eq_none (by omega)]; rfl
theorem flag_set (hx : l[k]? = some x) : (flagT l k).set k (x, true) = flagT l (k + 1) := by
  have hk := (List.getElem?_eq_some_iff.1 hx).1
  apply List.ext_getElem?
  intro i
  rw [List.getElem?_set, flag_at, flag_at, flag_len]
  by_cases h : k = i
  · subst h
    rw [if_pos rfl, if_pos hk, hx, decide_eq_true (Nat.lt_succ_self k)]; rfl
  · rw [if_neg h]
    congr 1
    funext y
    congr 1
    rw [decide_eq_decide]
    omega
end

end Go.Proofs.YtchogijdkagiiaaGreatDoor

namespace Go.Proofs.YtchogijdkagiiaaGreatDoor
open Go.RowKit

structure HeldOk : Prop where
  right : ∀ (A : Option Addr) (n c : Nat) (l : Tb) (w : World), TAsk w A n c l → FewT l → Calls Tryz.prog 25 #[.slice A n c] w (fun e w' => e = .returned (.bool (rightT l)) ∧ Below w.heap.size w w')
  busy : ∀ (A : Option Addr) (n c : Nat) (l : Tb) (a b : Int) (w : World), TAsk w A n c l → FewT l → Calls Tryz.prog 21 #[.slice A n c, .int .i64 a, .int .i64 b] w (IPost (busyT l a b) w)
  ends : ∀ (A : Option Addr) (n c : Nat) (l : Tb) (z : Int) (w : World), TAsk w A n c l → FewT l → Calls Tryz.prog 70 #[.slice A n c, .int .i64 z] w (IPost (endsT l z) w)
  get : ∀ (A : Option Addr) (n c : Nat) (l : Tb) (id : Int) (w : World), TAsk w A n c l → FewT l → Calls Tryz.prog 24 #[.slice A n c, .int .i64 id] w (GHPost (getT l id) (gotT l id) w)
  add : ∀ (A : Option Addr) (n c : Nat) (l : Tb) (A2 : Option Addr) (m c2 : Nat) (h : Hd) (w : World), TAsk w A n c l → FewT l → HAsk w A2 m c2 h → m ≤ 100 → Calls Tryz.prog 22 #[.slice A n c, .agg #[.int .i64 h.id, .slice A2 m c2, .int .i64 h.frm, .int .i64 h.to]] w (TEPost (addT l h) (addE l h) w)
  addN : ∀ (A : Option Addr) (n c : Nat) (l : Tb) (A2 : Option Addr) (m c2 : Nat) (h : Hd) (w : World), TAsk w A n c l → FewT l → HAsk w A2 m c2 h → m ≤ 100 → addE l h = 0 → Calls Tryz.prog 22 #[.slice A n c, .agg #[.int .i64 h.id, .slice A2 m c2, .int .i64 h.frm, .int .i64 h.to]] w (TPPost (fun b => w.heap.size ≤ b) (addT l h) w)

section
variable (H : HeldOk) {A : Option Addr} {n c : Nat} {A2 : Option Addr} {m c2 : Nat} {l : Tb} {h : Hd} {w : World}
include H
theorem h10_add (hl : TAsk w A n c l) (hf : FewT l) (hh : HAsk w A2 m c2 h) (hm : m ≤ 100) {l' : Tb} {er : Int} (e1 : addT l h = l') (e2 : addE l h = er) :
    Calls Tryz.prog 22 #[.slice A n c, .agg #[.int .i64 h.id, .slice A2 m c2, .int .i64 h.frm, .int .i64 h.to]] w (TEPost l' er w) := by
  subst e1 e2; exact H.add A n c l A2 m c2 h w hl hf hh hm
theorem h10_right (hl : TAsk w A n c l) (hf : FewT l) {v : Bool} (e : rightT l = v) : Calls Tryz.prog 25 #[.slice A n c] w fun e w' => e = .returned (.bool v) ∧ Below w.heap.size w w' := by
  subst e; exact H.right A n c l w hl hf
theorem h10_busy (hl : TAsk w A n c l) (hf : FewT l) {a b : Int} {r : List Int} (e : busyT l a b = r) : Calls Tryz.prog 21 #[.slice A n c, .int .i64 a, .int .i64 b] w (IPost r w) := by
  subst e; exact H.busy A n c l a b w hl hf
theorem h10_ends (hl : TAsk w A n c l) (hf : FewT l) {z : Int} {r : List Int} (e : endsT l z = r) : Calls Tryz.prog 70 #[.slice A n c, .int .i64 z] w (IPost r w) := by
  subst e; exact H.ends A n c l z w hl hf
theorem h10_get (hl : TAsk w A n c l) (hf : FewT l) {id : Int} {x : Hd} {b : Bool} (e1 : getT l id = x) (e2 : gotT l id = b) : Calls Tryz.prog 24 #[.slice A n c, .int .i64 id] w (GHPost x b w) := by
  subst e1 e2; exact H.get A n c l id w hl hf
end
section
variable {w : World}
/-- a list that a literal lays -/
theorem ri_litH (w : World) (xs : List Int) (cs : Array Value) (hc : cs.toList = xs.map (Value.int .i64)) : RI (w.alloc (.cells cs 3)) (w.alloc (.cells cs 3)).heap.size (some ⟨w.heap.size, 0, none⟩) xs.length xs := by
  refine ⟨rfl, fun _ => ⟨w.heap.size, 0, rfl, by simp, fun j hj => ?_⟩⟩
  rw [cell_of_row _ w.heap.size (0 + j) _ _ (0, 0) (heap_alloc_new w _), Nat.zero_add, ← Array.getElem?_toList, hc, List.getElem?_map, List.getElem?_eq_getElem hj, List.getD, List.getElem?_eq_getElem hj]
  rfl
/-- a table that was answered may be asked about -/
theorem ans_ask {A : Option Addr} {c : Nat} {l : Tb} (h : RT w w.heap.size A l.length l) (h1 : A = none → c = 0) (h2 : l.length ≤ c) (h3 : l.length ≤ maxLen) : TAsk w A l.length c l := ⟨h, h1, h2, h3⟩
end

end Go.Proofs.YtchogijdkagiiaaGreatDoor

namespace Go.Proofs.YtchogijdkagiiaaGreatDoor
open Go.RowKit

def gS : Gr := [⟨0, -1, ⟨#[]⟩⟩, ⟨2, 0, ⟨#[]⟩⟩, ⟨3, 1, ⟨#[]⟩⟩, ⟨3, 1, ⟨#[]⟩⟩]
def lS : Tb := [⟨1, [2], 0, 5⟩]
theorem awS_few : FewT lS := ⟨by decide, fun h hh => by unfold lS at hh; simp at hh; subst hh; decide⟩
theorem gS_lit (w : World) : GAsk (w.alloc (.cells #[.int .i64 0, .int .i64 (-1), .string ⟨#[]⟩, .int .i64 2, .int .i64 0, .string ⟨#[]⟩, .int .i64 3, .int .i64 1, .string ⟨#[]⟩, .int .i64 3, .int .i64 1, .string ⟨#[]⟩] 58)) (some ⟨w.heap.size, 0, none⟩) 4 4 gS := by
  refine ⟨⟨rfl, fun _ => ⟨w.heap.size, 0, rfl, by show w.heap.size < _; simp, fun j x hx => ?_⟩⟩, (fun h => by cases h), by omega, by omega⟩
  have hj : j < 4 := (List.getElem?_eq_some_iff.1 hx).1
  have hcell : ∀ o, (w.alloc (.cells #[.int .i64 0, .int .i64 (-1), .string ⟨#[]⟩, .int .i64 2, .int .i64 0, .string ⟨#[]⟩, .int .i64 3, .int .i64 1, .string ⟨#[]⟩, .int .i64 3, .int .i64 1, .string ⟨#[]⟩] 58)).cell? ⟨w.heap.size, o, none⟩ = _ := fun o => World.cell?_alloc_at (w := w) _ _ w.heap.size o rfl
  rcases (show j = 0 ∨ j = 1 ∨ j = 2 ∨ j = 3 by omega) with rfl | rfl | rfl | rfl
  all_goals
    simp [gS] at hx
    subst hx
    refine ⟨_, rfl, fun i v hv => ?_, rfl, by unfold I64; simp, by unfold I64; simp, by unfold maxLen; decide⟩
    have hi : i < 3 := (List.getElem?_eq_some_iff.1 hv).1
    rcases (show i = 0 ∨ i = 1 ∨ i = 2 by omega) with rfl | rfl | rfl
    all_goals
      rw [hcell]
      simp at hv ⊢
      exact hv
theorem uS_lit (w : World) : LAsk (w.alloc (.cells #[.int .i64 0, .int .i64 1, .int .i64 2, .int .i64 3] 3)) (some ⟨w.heap.size, 0, none⟩) 4 4 [0, 1, 2, 3] :=
  ⟨ri_litH w [0, 1, 2, 3] _ rfl, fun e => (by cases e), Nat.le_refl _, by omega, fun x hx => (by simp at hx; unfold I64; omega)⟩
/-- a table of one holding that a literal lays -/
theorem lS_lit (w : World) (g : Nat) (hr : RI w w.heap.size (some ⟨g, 0, none⟩) 1 [2]) : TAsk (w.alloc (.cells #[.int .i64 1, .slice (some ⟨g, 0, none⟩) 1 1, .int .i64 0, .int .i64 5] 41)) (some ⟨w.heap.size, 0, none⟩) 1 1 lS := by
  have hh : HAsk w (some ⟨g, 0, none⟩) 1 1 ⟨1, [2], 0, 5⟩ := ⟨hr, fun e => (by cases e), Nat.le_refl _, by decide, i64_of (by decide) (by decide), i64_of (by decide) (by decide), i64_of (by decide) (by decide), fun n hn => by simp at hn; subst hn; exact i64_of (by decide) (by decide)⟩
  refine ⟨⟨rfl, fun _ => ⟨w.heap.size, 0, rfl, by show w.heap.size < _; simp, fun j x hx => ?_⟩⟩, fun e => (by cases e), Nat.le_refl _, by decide⟩
  have hj : j = 0 := by have := (List.getElem?_eq_some_iff.1 hx).1; simp [lS] at this; omega
  subst hj
  simp [lS] at hx
  subst hx
  refine ⟨[.int .i64 1, .slice (some ⟨g, 0, none⟩) 1 1, .int .i64 0, .int .i64 5], rfl, fun i v hv => ?_, ?_⟩
  rotate_left
  · have h2 := HAsk.el hh ((Below.refl w.heap.size w).alloc (Nat.le_refl _) (.cells #[.int .i64 1, .slice (some ⟨g, 0, none⟩) 1 1, .int .i64 0, .int .i64 5] 41))
    exact eh_steady.keep h2 (fun _ _ => rfl) (fun b hb => by show b < _; simp; exact Nat.lt_succ_of_lt hb)
  · rw [World.cell?_alloc_at (w := w) _ _ w.heap.size _ rfl, Nat.zero_mul, Nat.zero_add, Nat.zero_add, ← Array.getElem?_toList]
    exact hv


end Go.Proofs.YtchogijdkagiiaaGreatDoor

namespace Go.Proofs.YtchogijdkagiiaaGreatDoor

/-- is a thing held at a time of the span, by the holdings as they stand -/
def meetB (h : Hd) (a b x : Int) : Bool := decide (h.frm < b) && (decide (a < h.to) && hasB h.things x)
def rawB (l : Tb) (a b x : Int) : Bool := l.any fun h => meetB h a b x
def rawFree (use : List Int) (l : Tb) (a b : Int) : List Int := use.filter fun x => !rawB l a b x
section
variable {g : Gr} {use : List Int} {l : Tb} {s : Sp} {a b x : Int} {k : Nat}
theorem getD_hdS (h : k < l.length) : l.getD k hd0 = l[k] := by rw [List.getD, List.getElem?_eq_getElem h]; rfl
theorem raw_step (h : k < l.length) : rawB (l.take (k + 1)) a b x = (rawB (l.take k) a b x || meetB (l.getD k hd0) a b x) := by
  unfold rawB
  rw [List.take_succ_eq_append_getElem h, List.any_append, getD_hdS h]
  simp
theorem right_filter (p : Int → Bool) : ∀ {l : List Int}, rightB l = true → rightB (l.filter p) = true
  | [], _ => (show rightB [] = true by decide)
  | x :: r, h => by
    have ih := right_filter p (right_tail h)
    rw [List.filter_cons]
    split
    · exact right_cons (right_head h) ih fun y hy => right_below h y (List.mem_filter.1 hy).1
    · exact ih
/-- of a table that is right, and a span that isn't empty: what isn't held is what isn't busy -/
theorem raw_free (hl : rightT l = true) (hu : rightB use = true) (hab : a < b) : rawFree use l a b = freeS use l a b := by
  refine right_ext (right_filter _ hu) freeS_right fun n => ?_
  unfold rawFree
  rw [List.mem_filter, mem_freeS hu, mem_busy hl]
  refine and_congr_right fun _ => ?_
  unfold rawB
  rw [Bool.not_eq_true', Bool.eq_false_iff, Ne, List.any_eq_true]
  refine not_congr ⟨fun ⟨y, hy, h⟩ => ⟨y, hy, ?_⟩, fun ⟨y, hy, h1, h2⟩ => ⟨y, hy, ?_⟩⟩
  · unfold meetB at h
    rw [Bool.and_eq_true, Bool.and_eq_true, decide_eq_true_eq, decide_eq_true_eq] at h
    obtain ⟨h1, h2, h3⟩ := h
    have hy2 := ((rightT_is.1 hl).may y hy).2.2.2.1
    unfold meetsZ
    unfold hasB at h3
    rw [Bool.and_eq_true] at h3
    exact ⟨decide_eq_true ⟨hy2, hab, h1, h2⟩, List.contains_iff_mem.1 h3.2⟩
  · unfold meetsZ at h1
    have h1' := of_decide_eq_true h1
    unfold meetB hasB
    rw [Bool.and_eq_true, Bool.and_eq_true, Bool.and_eq_true, decide_eq_true_eq, decide_eq_true_eq]
    exact ⟨h1'.2.2.1, h1'.2.2.2, ((rightT_is.1 hl).may y hy).2.1, List.contains_iff_mem.2 h2⟩
/-- what the walk through all things comes to -/
theorem at_is {u t : Int} (h0 : 0 ≤ t) (h1 : t < 4611686018427387904) (hl : rightT l = true) (hu : rightB use = true) (he : endsS s t ≤ u) :
    hadB g (rawFree use l t (endsS s t)) s = decide (FitsS g use l s u t) ∧ findL g (rawFree use l t (endsS s t)) s = gotS g use l s u t := by
  cases hs : rightS s with
  | true =>
    rw [raw_free hl hu (endsS_after hs h0 h1)]
    cases hh : hadB g (freeS use l t (endsS s t)) s with
    | true =>
      have hf : FitsS g use l s u t := ⟨⟨h0, h1⟩, hl, hu, he, hh⟩
      exact ⟨(decide_eq_true hf).symm, (gotS_is hf).symm⟩
    | false =>
      have hf : ¬ FitsS g use l s u t := fun h => by rw [h.2.2.2.2] at hh; cases hh
      exact ⟨(decide_eq_false hf).symm, by rw [gotS_no hf]; unfold findL; rw [if_neg (by rw [hh]; decide)]⟩
  | false =>
    have hf : ¬ FitsS g use l s u t := fun h => by rw [(fits_spec h).2] at hs; cases hs
    have hh : hadB g (rawFree use l t (endsS s t)) s = false := by
      rw [Bool.eq_false_iff]
      intro h
      have := mayB_is (hadB_is.1 h).1
      rw [this.2.2] at hs; cases hs
    exact ⟨by rw [hh, decide_eq_false hf], by rw [gotS_no hf]; unfold findL; rw [if_neg (by rw [hh]; decide)]⟩
/-- of the holdings up to the k-th and the span's beginning: is it the first that fits -/
def BestK (g : Gr) (use : List Int) (l : Tb) (s : Sp) (frm u : Int) (k : Nat) (best : Int) : Prop :=
  (best = -1 ∧ ∀ t, (t = frm ∨ (frm ≤ t ∧ ∃ i, i < k ∧ (l.getD i hd0).to = t)) → ¬ FitsS g use l s u t) ∨
  (0 ≤ best ∧ (best = frm ∨ (frm ≤ best ∧ ∃ i, i < k ∧ (l.getD i hd0).to = best)) ∧ FitsS g use l s u best ∧ ∀ t, (t = frm ∨ (frm ≤ t ∧ ∃ i, i < k ∧ (l.getD i hd0).to = t)) → FitsS g use l s u t → best ≤ t)
theorem times_iff {frm t : Int} : (t = frm ∨ (frm ≤ t ∧ ∃ i, i < l.length ∧ (l.getD i hd0).to = t)) ↔ t ∈ timesS l frm := by
  rw [mem_timesS]
  constructor
  · rintro (h | ⟨h, i, hi, e⟩)
    · exact .inl h
    · by_cases h2 : t = frm
      · exact .inl h2
      · exact .inr ⟨by omega, l[i], List.getElem_mem hi, by rw [← e, getD_hdS hi]⟩
  · rintro (h | ⟨h, x, hx, e⟩)
    · exact .inl h
    · obtain ⟨i, hi, e2⟩ := List.getElem_of_mem hx
      exact .inr ⟨by omega, i, hi, by rw [getD_hdS hi, e2, e]⟩
theorem best_none {frm u best : Int} (h : BestK g use l s frm u l.length best) (hb : best < 0) : firstS g use l s frm u = none := by
  rcases h with ⟨_, h⟩ | ⟨h, _⟩
  · exact firstS_none.2 fun t ht => h t (times_iff.2 ht)
  · omega
theorem best_some {frm u best : Int} (h : BestK g use l s frm u l.length best) (hb : ¬ best < 0) : firstS g use l s frm u = some best := by
  rcases h with ⟨h, _⟩ | ⟨_, h1, h2, h3⟩
  · omega
  · exact firstS_some.2 ⟨⟨times_iff.1 h1, h2⟩, fun t ht hf => h3 t (times_iff.2 ht) hf⟩
theorem best_from {frm u : Int} (h0 : FitsS g use l s u frm) : BestK g use l s frm u 0 frm := by
  refine .inr ⟨h0.1.1, .inl rfl, h0, fun t ht _ => ?_⟩
  rcases ht with h | ⟨h, _⟩ <;> omega
theorem best_no {frm u : Int} (h0 : ¬ FitsS g use l s u frm) : BestK g use l s frm u 0 (-1) := by
  refine .inl ⟨rfl, fun t ht => ?_⟩
  rcases ht with h | ⟨_, i, hi, _⟩
  · rw [h]; exact h0
  · omega
theorem best_kfits {frm u best : Int} (hbk : BestK g use l s frm u k best) (hf : FitsS g use l s u (l.getD k hd0).to) (h1 : frm ≤ (l.getD k hd0).to) (h2 : best < 0 ∨ (l.getD k hd0).to < best) : BestK g use l s frm u (k + 1) (l.getD k hd0).to := by
  refine .inr ⟨hf.1.1, .inr ⟨h1, k, Nat.lt_succ_self k, rfl⟩, hf, fun t ht hft => ?_⟩
  have hold : (t = frm ∨ (frm ≤ t ∧ ∃ i, i < k ∧ (l.getD i hd0).to = t)) ∨ t = (l.getD k hd0).to := by
    rcases ht with h | ⟨h, i, hi, e⟩
    · exact .inl (.inl h)
    · by_cases hik : i = k
      · subst hik; exact .inr e.symm
      · exact .inl (.inr ⟨h, i, by omega, e⟩)
  rcases hold with h3 | h3
  · rcases hbk with ⟨_, h⟩ | ⟨_, _, _, h⟩
    · exact absurd hft (h t h3)
    · have h5 := h t h3 hft
      clear h3 h ht hft
      omega
  · rw [h3]; exact Int.le_refl _
theorem best_skip {frm u best : Int} (hbk : BestK g use l s frm u k best) (hs : (l.getD k hd0).to < frm ∨ (0 ≤ best ∧ best ≤ (l.getD k hd0).to) ∨ ¬ FitsS g use l s u (l.getD k hd0).to) : BestK g use l s frm u (k + 1) best := by
  have hold : ∀ t, (t = frm ∨ (frm ≤ t ∧ ∃ i, i < k + 1 ∧ (l.getD i hd0).to = t)) → (t = frm ∨ (frm ≤ t ∧ ∃ i, i < k ∧ (l.getD i hd0).to = t)) ∨ (t = (l.getD k hd0).to ∧ frm ≤ t) := by
    rintro t (h | ⟨h, i, hi, e⟩)
    · exact .inl (.inl h)
    · by_cases hik : i = k
      · subst hik; exact .inr ⟨e.symm, h⟩
      · exact .inl (.inr ⟨h, i, by omega, e⟩)
  rcases hbk with ⟨h1, h2⟩ | ⟨h1, h2, h3, h4⟩
  · refine .inl ⟨h1, fun t ht => ?_⟩
    rcases hold t ht with h5 | ⟨h5, h6⟩
    · exact h2 t h5
    · rcases hs with hs | hs | hs
      · omega
      · omega
      · rw [h5]; exact hs
  · refine .inr ⟨h1, h2.imp id fun ⟨h5, i, hi, e⟩ => ⟨h5, i, by omega, e⟩, h3, fun t ht hf => ?_⟩
    rcases hold t ht with h5 | ⟨h5, h6⟩
    · exact h4 t h5 hf
    · rcases hs with hs | hs | hs
      · omega
      · omega
      · rw [h5] at hf; exact absurd hf hs
/-- what is got at the best so far -/
def gotK (g : Gr) (use : List Int) (l : Tb) (s : Sp) (u best : Int) : List Int := if best < 0 then [] else gotS g use l s u best
theorem first_none {frm u : Int} (h : firstS g use l s frm u = none) : firstAtS g use l s frm u = 0 ∧ firstLS g use l s frm u = [] ∧ firstBS g use l s frm u = false := by
  unfold firstAtS firstLS firstBS
  rw [h]; exact ⟨rfl, rfl, rfl⟩
theorem first_some {frm u t : Int} (h : firstS g use l s frm u = some t) : firstAtS g use l s frm u = t ∧ firstLS g use l s frm u = gotS g use l s u t ∧ firstBS g use l s frm u = true := by
  unfold firstAtS firstLS firstBS
  rw [h]; exact ⟨rfl, rfl, rfl⟩
end

end Go.Proofs.YtchogijdkagiiaaGreatDoor

namespace Go.Proofs.YtchogijdkagiiaaGreatDoor

abbrev Rising (l : List Int) : Prop := l.Pairwise fun a b => a < b
theorem rise_ext : ∀ {a b : List Int}, Rising a → Rising b → (∀ x, x ∈ a ↔ x ∈ b) → a = b
  | [], [], _, _, _ => rfl
  | [], y :: b, _, _, h => by have := (h y).2 (List.mem_cons_self ..); cases this
  | x :: a, [], _, _, h => by have := (h x).1 (List.mem_cons_self ..); cases this
  | x :: a, y :: b, ha, hb, h => by
    unfold Rising at ha hb
    rw [List.pairwise_cons] at ha hb
    have hxy : x = y := by
      rcases List.mem_cons.1 ((h x).1 (List.mem_cons_self ..)) with e | e
      · exact e
      · rcases List.mem_cons.1 ((h y).2 (List.mem_cons_self ..)) with e' | e'
        · exact e'.symm
        · have h1 := hb.1 x e
          have h2 := ha.1 y e'
          omega
    subst hxy
    congr 1
    refine rise_ext ha.2 hb.2 fun z => ?_
    constructor
    · intro hz
      rcases List.mem_cons.1 ((h z).1 (List.mem_cons_of_mem _ hz)) with e | e
      · subst e; have := ha.1 z hz; omega
      · exact e
    · intro hz
      rcases List.mem_cons.1 ((h z).2 (List.mem_cons_of_mem _ hz)) with e | e
      · subst e; have := hb.1 z hz; omega
      · exact e
theorem mem_insZ {x z : Int} : ∀ {l : List Int}, z ∈ insZ x l ↔ z = x ∨ z ∈ l
  | [] => by simp [insZ]
  | y :: r => by
    unfold insZ
    split
    · simp
    · split
      · rename_i e
        subst e
        simp
      · rw [List.mem_cons, mem_insZ, List.mem_cons]
        constructor
        · rintro (h | h | h)
          · exact .inr (.inl h)
          · exact .inl h
          · exact .inr (.inr h)
        · rintro (h | h | h)
          · exact .inr (.inl h)
          · exact .inl h
          · exact .inr (.inr h)
theorem rising_insZ {x : Int} : ∀ {l : List Int}, Rising l → Rising (insZ x l)
  | [], _ => List.pairwise_singleton _ _
  | y :: r, h => by
    have h' := List.pairwise_cons.1 h
    unfold insZ
    split
    · rename_i hlt
      refine List.pairwise_cons.2 ⟨fun z hz => ?_, h⟩
      rcases List.mem_cons.1 hz with e | e
      · subst e; exact hlt
      · have := h'.1 z e; omega
    · split
      · exact h
      · rename_i h1 h2
        refine List.pairwise_cons.2 ⟨fun z hz => ?_, rising_insZ h'.2⟩
        rcases mem_insZ.1 hz with e | e
        · subst e; omega
        · exact h'.1 z e
theorem mem_foldZ {z : Int} : ∀ {l : List Int}, z ∈ l.foldr insZ [] ↔ z ∈ l
  | [] => Iff.rfl
  | x :: r => by rw [List.foldr_cons, mem_insZ, mem_foldZ, List.mem_cons]
theorem rising_foldZ : ∀ (l : List Int), Rising (l.foldr insZ [])
  | [] => List.Pairwise.nil
  | _ :: r => rising_insZ (rising_foldZ r)
section
variable {zs : List Int}
theorem keeps_first (zs : List Int) : ∀ j, j < zs.length → ∃ i, i ≤ j ∧ Lib.keeps zs.toArray i = true ∧ zs.toArray[i]! = zs.toArray[j]!
  | 0, _ => ⟨0, Nat.le_refl _, by simp [Lib.keeps], rfl⟩
  | j + 1, hj => by
    by_cases h : zs.toArray[j + 1]! = zs.toArray[j]!
    · obtain ⟨i, h1, h2, h3⟩ := keeps_first zs j (by omega)
      exact ⟨i, by omega, h2, h3.trans h.symm⟩
    · exact ⟨j + 1, Nat.le_refl _, by simpa [Lib.keeps] using h, rfl⟩
theorem arr_at {j : Nat} (hj : j < zs.length) : zs.toArray[j]! = zs[j] := by rw [getElem!_pos _ _ (by simpa using hj)]; simp
theorem mem_compact {x : Int} : x ∈ Lib.compactUpTo zs.toArray zs.length ↔ x ∈ zs := by
  unfold Lib.compactUpTo
  rw [List.mem_map]
  constructor
  · rintro ⟨j, hj, rfl⟩
    rw [List.mem_filter, List.mem_range] at hj
    rw [arr_at hj.1]
    exact List.getElem_mem hj.1
  · intro hx
    obtain ⟨j, hj, rfl⟩ := List.getElem_of_mem hx
    obtain ⟨i, h1, h2, h3⟩ := keeps_first zs j hj
    exact ⟨i, by rw [List.mem_filter, List.mem_range]; exact ⟨by omega, h2⟩, by rw [h3, arr_at hj]⟩
theorem rising_compact (h : zs.Pairwise fun a b => a ≤ b) : Rising (Lib.compactUpTo zs.toArray zs.length) := by
  unfold Lib.compactUpTo Rising
  rw [List.pairwise_map, List.pairwise_filter]
  refine List.pairwise_iff_getElem.2 fun i j hi hj hij _ hk => ?_
  simp only [List.getElem_range, List.length_range] at hi hj hk ⊢
  rw [arr_at (by omega), arr_at (by omega)]
  have hne : zs.toArray[j]! ≠ zs.toArray[j - 1]! := by
    have : j ≠ 0 := by omega
    simpa [Lib.keeps, this] using hk
  rw [arr_at (by omega), arr_at (by omega)] at hne
  have h1 : zs[i] ≤ zs[j - 1] := by
    rcases Nat.eq_or_lt_of_le (show i ≤ j - 1 by omega) with e | e
    · subst e; exact Int.le_refl _
    · exact List.pairwise_iff_getElem.1 h i (j - 1) (by omega) (by omega) e
  have h2 := List.pairwise_iff_getElem.1 h (j - 1) j (by omega) (by omega) (by omega)
  omega
end
theorem sort_le (l : List Int) : (l.mergeSort fun x y => decide (x ≤ y)).Pairwise fun a b => a ≤ b :=
  (List.pairwise_mergeSort (fun a b c h1 h2 => by simp at *; omega) (fun a b => by simp; omega) l).imp fun h => by simpa using h
/-- sorted, and each but once -/
theorem compact_sort (l : List Int) : Lib.compactUpTo (l.mergeSort fun x y => decide (x ≤ y)).toArray (l.mergeSort fun x y => decide (x ≤ y)).length = l.foldr insZ [] :=
  rise_ext (rising_compact (sort_le l)) (rising_foldZ l) fun x => by rw [mem_compact, mem_foldZ, List.mem_mergeSort]
end Go.Proofs.YtchogijdkagiiaaGreatDoor

namespace Go.Proofs.YtchogijdkagiiaaGreatDoor
open Go.RowKit

set_option maxRecDepth 100000 in
set_option maxHeartbeats 8000000 in
theorem refMeets_any (a b c d : Int) (w : World) : Calls Tryz.prog 75 #[.int .i64 a, .int .i64 b, .int .i64 c, .int .i64 d] w fun e w' => e = .returned (.bool (meetsZ a b c d)) ∧ w = w' := by
  by_cases h1 : a < c
  · by_cases h2 : c < b
    · by_cases h3 : c < d
      · have e : meetsZ a b c d = true := decide_eq_true (by omega)
        rw [e]
        clear e
        have g1 : decide (a < c) = true := decide_eq_true (by omega)
        have g2 : decide (a ≤ c) = true := decide_eq_true (by omega)
        have g0 : decide (c ≤ c) = true := decide_eq_true (by omega)
        have g3 : decide (c < b) = true := decide_eq_true (by omega)
        have g4 : decide (c < d) = true := decide_eq_true (by omega)
        go_enter Tryz.func75, Tryz.ntmps75
        go_wp2
        go_ret
        exact ⟨rfl, rfl⟩
      · have e : meetsZ a b c d = false := decide_eq_false (by omega)
        rw [e]
        clear e
        have g1 : decide (a < c) = true := decide_eq_true (by omega)
        have g2 : decide (a ≤ c) = true := decide_eq_true (by omega)
        have g0 : decide (c ≤ c) = true := decide_eq_true (by omega)
        have g3 : decide (c < b) = true := decide_eq_true (by omega)
        have g4 : decide (c < d) = false := decide_eq_false (by omega)
        go_enter Tryz.func75, Tryz.ntmps75
        go_wp2
        go_ret
        exact ⟨rfl, rfl⟩
    · have e : meetsZ a b c d = false := decide_eq_false (by omega)
      rw [e]
      clear e
      have g1 : decide (a < c) = true := decide_eq_true (by omega)
      have g2 : decide (a ≤ c) = true := decide_eq_true (by omega)
      have g0 : decide (c ≤ c) = true := decide_eq_true (by omega)
      have g3 : decide (c < b) = false := decide_eq_false (by omega)
      go_enter Tryz.func75, Tryz.ntmps75
      go_wp2
      go_ret
      exact ⟨rfl, rfl⟩
  · by_cases h2 : a < b
    · by_cases h3 : a < d
      · have e : meetsZ a b c d = true := decide_eq_true (by omega)
        rw [e]
        clear e
        have g1 : decide (a < c) = false := decide_eq_false (by omega)
        have g2 : decide (c ≤ a) = true := decide_eq_true (by omega)
        have g0 : decide (a ≤ a) = true := decide_eq_true (by omega)
        have g3 : decide (a < b) = true := decide_eq_true (by omega)
        have g4 : decide (a < d) = true := decide_eq_true (by omega)
        go_enter Tryz.func75, Tryz.ntmps75
        go_wp2
        go_ret
        exact ⟨rfl, rfl⟩
      · have e : meetsZ a b c d = false := decide_eq_false (by omega)
        rw [e]
        clear e
        have g1 : decide (a < c) = false := decide_eq_false (by omega)
        have g2 : decide (c ≤ a) = true := decide_eq_true (by omega)
        have g0 : decide (a ≤ a) = true := decide_eq_true (by omega)
        have g3 : decide (a < b) = true := decide_eq_true (by omega)
        have g4 : decide (a < d) = false := decide_eq_false (by omega)
        go_enter Tryz.func75, Tryz.ntmps75
        go_wp2
        go_ret
        exact ⟨rfl, rfl⟩
    · have e : meetsZ a b c d = false := decide_eq_false (by omega)
      rw [e]
      clear e
      have g1 : decide (a < c) = false := decide_eq_false (by omega)
      have g2 : decide (c ≤ a) = true := decide_eq_true (by omega)
      have g0 : decide (a ≤ a) = true := decide_eq_true (by omega)
      have g3 : decide (a < b) = false := decide_eq_false (by omega)
      go_enter Tryz.func75, Tryz.ntmps75
      go_wp2
      go_ret
      exact ⟨rfl, rfl⟩
theorem refMeets_b {a b c d : Int} {w : World} {v : Bool} (h : meetsZ a b c d = v) : Calls Tryz.prog 75 #[.int .i64 a, .int .i64 b, .int .i64 c, .int .i64 d] w fun e w' => e = .returned (.bool v) ∧ Below w.heap.size w w' := by
  subst h
  exact (refMeets_any a b c d w).mono fun _ _ ⟨h1, h2⟩ => ⟨h1, by rw [← h2]; exact Below.refl _ _⟩

/-! Touch: two rows by rising numbers, walked side by side -/
theorem rise_lt {l : List Int} (h : rightB l = true) : ∀ {i j : Nat}, i < j → j < l.length → l.getD i 0 < l.getD j 0 := by
  induction l with
  | nil => intro i j _ h2; simp at h2
  | cons x r ih =>
    intro i j h1 h2
    obtain ⟨j', rfl⟩ : ∃ j', j = j' + 1 := ⟨j - 1, by omega⟩
    have hj : j' < r.length := by simpa using h2
    cases i with
    | zero =>
      rw [List.getD_cons_zero, List.getD_cons_succ]
      refine right_below h _ ?_
      rw [List.getD, List.getElem?_eq_getElem hj]
      exact List.getElem_mem hj
    | succ i =>
      rw [List.getD_cons_succ, List.getD_cons_succ]
      exact ih (right_tail h) (by omega) hj
theorem getD_mem {l : List Int} {i : Nat} (h : i < l.length) : l.getD i 0 ∈ l := by
  rw [List.getD, List.getElem?_eq_getElem h]; exact List.getElem_mem h
theorem mem_getD {l : List Int} {x : Int} (h : x ∈ l) : ∃ i, i < l.length ∧ l.getD i 0 = x := by
  obtain ⟨i, hi, e⟩ := List.getElem_of_mem h
  exact ⟨i, hi, by rw [List.getD, List.getElem?_eq_getElem hi]; exact e⟩
/-- nothing of the first i of one is in the other, and the other way round -/
structure NoneYet (a b : List Int) (i k : Nat) : Prop where
  left : ∀ j, j < i → a.getD j 0 ∉ b
  right : ∀ j, j < k → b.getD j 0 ∉ a
theorem NoneYet.go1 {a b : List Int} {i k : Nat} (_ : rightB a = true) (hb : rightB b = true) (h : NoneYet a b i k) (hi : i < a.length) (hk : k < b.length) (hlt : a.getD i 0 < b.getD k 0) : NoneYet a b (i + 1) k := by
  refine ⟨fun j hj => ?_, h.right⟩
  by_cases hji : j = i
  · subst hji
    intro hm
    obtain ⟨q, hq, e⟩ := mem_getD hm
    rcases Nat.lt_trichotomy q k with hqk | hqk | hqk
    · exact h.right q hqk (by rw [e]; exact getD_mem hi)
    · subst hqk; omega
    · have := rise_lt hb hqk hq; omega
  · exact h.left j (by omega)
theorem NoneYet.go2 {a b : List Int} {i k : Nat} (ha : rightB a = true) (_ : rightB b = true) (h : NoneYet a b i k) (hi : i < a.length) (hk : k < b.length) (hlt : b.getD k 0 < a.getD i 0) : NoneYet a b i (k + 1) := by
  refine ⟨h.left, fun j hj => ?_⟩
  by_cases hji : j = k
  · subst hji
    intro hm
    obtain ⟨q, hq, e⟩ := mem_getD hm
    rcases Nat.lt_trichotomy q i with hqk | hqk | hqk
    · exact h.left q hqk (by rw [e]; exact getD_mem hk)
    · subst hqk; omega
    · have := rise_lt ha hqk hq; omega
  · exact h.right j (by omega)
theorem NoneYet.done {a b : List Int} {i k : Nat} (h : NoneYet a b i k) (he : a.length ≤ i ∨ b.length ≤ k) : touchB a b = false := by
  refine Bool.eq_false_iff.2 fun ht => ?_
  obtain ⟨n, h1, h2⟩ := touch_iff.1 ht
  rcases he with he | he
  · obtain ⟨q, hq, e⟩ := mem_getD h1
    exact h.left q (by omega) (by rw [e]; exact h2)
  · obtain ⟨q, hq, e⟩ := mem_getD h2
    exact h.right q (by omega) (by rw [e]; exact h1)
set_option maxRecDepth 100000 in
set_option maxHeartbeats 8000000 in
theorem refTouch_any (A : Option Addr) (n c : Nat) (A2 : Option Addr) (n2 c2 : Nat) (a b : List Int) (w : World) (ha : RI w w.heap.size A n a) (hb : RI w w.heap.size A2 n2 b) (hn : n ≤ maxLen) (hn2 : n2 ≤ maxLen) (hra : rightB a = true) (hrb : rightB b = true) :
    Calls Tryz.prog 76 #[.slice A n c, .slice A2 n2 c2] w fun e w' => e = .returned (.bool (touchB a b)) ∧ Below w.heap.size w w' := by
  have HA := Lib.hid ha
  have HB := Lib.hid hb
  have LA := Lib.hid ha.1
  have LB := Lib.hid hb.1
  have RA := Lib.hid hra
  have RB := Lib.hid hrb
  obtain ⟨v, hv⟩ : ∃ v, touchB a b = v := ⟨_, rfl⟩
  have HV := Lib.hid hv
  rw [hv]
  unfold maxLen at *
  clear ha hb hra hrb hv
  go_enter Tryz.func76, Tryz.ntmps76
  go_wp2
  go_loopw [5, 6] (fun s5 s6 wr => ∃ i k q : Nat, s5 = .int .i64 i ∧ s6 = .int .i64 k ∧ i ≤ n ∧ k ≤ n2 ∧ NoneYet a b i k ∧ wr = w.drewN q) (fun s5 s6 _ => (n - (intOf s5).toNat) + (n2 - (intOf s6).toNat))
  case atStart => exact ⟨0, 0, 0, rfl, rfl, Nat.zero_le _, Nat.zero_le _, ⟨fun j hj => absurd hj (by omega), fun j hj => absurd hj (by omega)⟩, rfl⟩
  case round =>
    obtain ⟨i, k, q, rfl, rfl, hi, hk, hny, rfl⟩ := hrel
    have HNY := Lib.hid hny
    clear hny
    by_cases h1 : i < n
    · by_cases h2 : k < n2
      · obtain ⟨b1, o1, rfl, _, hc1⟩ := HA.out.one h1
        obtain ⟨b2, o2, rfl, _, hc2⟩ := HB.out.one h2
        have hla : i < a.length := by rw [LA.out]; exact h1
        have hlb : k < b.length := by rw [LB.out]; exact h2
        obtain ⟨x, hx⟩ : ∃ x, a.getD i 0 = x := ⟨_, rfl⟩
        obtain ⟨y, hy⟩ : ∃ y, b.getD k 0 = y := ⟨_, rfl⟩
        have HX := Lib.hid hx
        have HY := Lib.hid hy
        have HLA := Lib.hid hla
        have HLB := Lib.hid hlb
        rw [hx] at hc1
        rw [hy] at hc2
        clear hx hy hla hlb
        by_cases h3 : x = y
        · have hT : Hid (v = true) := Lib.hid (by
            rw [← HV.out]
            exact touch_iff.2 ⟨x, by rw [← HX.out]; exact getD_mem HLA.out, by rw [h3, ← HY.out]; exact getD_mem HLB.out⟩)
          have d3 : (x == y) = true := by simpa using h3
          subst h3
          go_wp2
          go_quiet (fail)
          go_wp2
          go_ret
          exact ⟨by rw [hT.out]; rfl, bel_more (bel_drew w q) _⟩
        · have d3 : (x == y) = false := by simpa using h3
          by_cases h4 : x < y
          · have d4 : decide (x < y) = true := decide_eq_true h4
            have HN : Hid (NoneYet a b (i + 1) k) := Lib.hid (HNY.out.go1 RA.out RB.out HLA.out HLB.out (by rw [HX.out, HY.out]; exact h4))
            clear h3 h4
            go_wp2
            go_quiet (fail)
            go_wp2
            go_quiet (fail)
            go_wp2
            go_roundw
            case rel => exact ⟨i + 1, k, _, by go_num, rfl, by omega, hk, HN.out, rfl⟩
            case measure => simp [intOf]; omega
          · have d4 : decide (x < y) = false := decide_eq_false h4
            have HN : Hid (NoneYet a b i (k + 1)) := Lib.hid (HNY.out.go2 RA.out RB.out HLA.out HLB.out (by rw [HX.out, HY.out]; omega))
            clear h3 h4
            go_wp2
            go_quiet (fail)
            go_wp2
            go_quiet (fail)
            go_wp2
            go_roundw
            case rel => exact ⟨i, k + 1, _, rfl, by go_num, hi, by omega, HN.out, rfl⟩
            case measure => simp [intOf]; omega
      · have hT : Hid (v = false) := Lib.hid (by rw [← HV.out]; exact HNY.out.done (.inr (by rw [LB.out]; omega)))
        have d2 : decide (k < n2) = false := decide_eq_false h2
        go_wp2
        go_ret
        exact ⟨by rw [hT.out]; rfl, bel_drew w _⟩
    · have hT : Hid (v = false) := Lib.hid (by rw [← HV.out]; exact HNY.out.done (.inl (by rw [LA.out]; omega)))
      have d1 : decide (i < n) = false := decide_eq_false h1
      go_wp2
      go_ret
      exact ⟨by rw [hT.out]; rfl, bel_drew w _⟩

end Go.Proofs.YtchogijdkagiiaaGreatDoor

namespace Go.Proofs.YtchogijdkagiiaaGreatDoor
open Go.RowKit

set_option maxRecDepth 100000 in
set_option maxHeartbeats 8000000 in
theorem refMay_a (A : Option Addr) (m c : Nat) (h : Hd) (w : World) (hh : HAsk w A m c h) (h0 : ¬ 0 < m) :
    Calls Tryz.prog 48 #[.agg #[.int .i64 h.id, .slice A m c, .int .i64 h.frm, .int .i64 h.to]] w fun e w' => e = .returned (.bool false) ∧ Below w.heap.size w w' := by
  obtain ⟨W, hW⟩ : ∃ W, W = w.alloc (hO h A m c) := ⟨_, rfl⟩
  have BX : Hid (BoxH W w.heap.size h A m c) := Lib.hid (by rw [hW]; exact boxH_new w h A m c)
  have hb0 : Below w.heap.size w W := by rw [hW]; exact (Below.refl _ _).alloc (Nat.le_refl _) _
  have HB := Lib.hid hb0
  have HH := Lib.hid (hh.next hb0)
  unfold hO at hW
  have d0 : decide (0 < m) = false := decide_eq_false h0
  clear hb0 hh
  have q0 := BX.out.c0
  have q1 := BX.out.c1
  have q2 := BX.out.c2
  have q3 := BX.out.c3
  go_enter Tryz.func48, Tryz.ntmps48
  go_wp2_with fail
  rw [← hW]
  clear hW
  go_wp2
  go_ret
  exact ⟨rfl, HB.out⟩
set_option maxRecDepth 100000 in
set_option maxHeartbeats 8000000 in
theorem refMayH_b (A : Option Addr) (m c : Nat) (h : Hd) (w : World) (hh : HAsk w A m c h) (h0 : 0 < m) (h1 : rightB h.things = false) :
    Calls Tryz.prog 48 #[.agg #[.int .i64 h.id, .slice A m c, .int .i64 h.frm, .int .i64 h.to]] w fun e w' => e = .returned (.bool false) ∧ Below w.heap.size w w' := by
  obtain ⟨W, hW⟩ : ∃ W, W = w.alloc (hO h A m c) := ⟨_, rfl⟩
  have BX : Hid (BoxH W w.heap.size h A m c) := Lib.hid (by rw [hW]; exact boxH_new w h A m c)
  have hb0 : Below w.heap.size w W := by rw [hW]; exact (Below.refl _ _).alloc (Nat.le_refl _) _
  have HB := Lib.hid hb0
  have HH := Lib.hid (hh.next hb0)
  unfold hO at hW
  have d0 : decide (0 < m) = true := decide_eq_true h0
  have H1 := Lib.hid h1
  clear hb0 hh h1
  have q0 := BX.out.c0
  have q1 := BX.out.c1
  have q2 := BX.out.c2
  have q3 := BX.out.c3
  go_enter Tryz.func48, Tryz.ntmps48
  go_wp2_with fail
  rw [← hW]
  clear hW
  refine (ri_isSet HH.out.reads HH.out.few H1.out).mono ?_
  rintro e w1 ⟨rfl, hb⟩
  have HB1 := Lib.hid (HB.out.trans (hb.mono HB.out.size))
  have BX1 := Lib.hid (BX.out.next hb)
  clear hb q0 q1 q2 q3
  have q0 := BX1.out.c0
  have q1 := BX1.out.c1
  have q2 := BX1.out.c2
  have q3 := BX1.out.c3
  go_wp2
  go_ret
  exact ⟨rfl, HB1.out⟩
set_option maxRecDepth 100000 in
set_option maxHeartbeats 8000000 in
theorem refMay_c (A : Option Addr) (m c : Nat) (h : Hd) (w : World) (hh : HAsk w A m c h) (h0 : 0 < m) (h1 : rightB h.things = true) (h2 : ¬ 0 ≤ h.frm) :
    Calls Tryz.prog 48 #[.agg #[.int .i64 h.id, .slice A m c, .int .i64 h.frm, .int .i64 h.to]] w fun e w' => e = .returned (.bool false) ∧ Below w.heap.size w w' := by
  obtain ⟨W, hW⟩ : ∃ W, W = w.alloc (hO h A m c) := ⟨_, rfl⟩
  have BX : Hid (BoxH W w.heap.size h A m c) := Lib.hid (by rw [hW]; exact boxH_new w h A m c)
  have hb0 : Below w.heap.size w W := by rw [hW]; exact (Below.refl _ _).alloc (Nat.le_refl _) _
  have HB := Lib.hid hb0
  have HH := Lib.hid (hh.next hb0)
  unfold hO at hW
  have d0 : decide (0 < m) = true := decide_eq_true h0
  have H1 := Lib.hid h1
  have d2 : decide ((0 : Int) ≤ h.frm) = false := decide_eq_false h2
  clear hb0 hh h1
  have q0 := BX.out.c0
  have q1 := BX.out.c1
  have q2 := BX.out.c2
  have q3 := BX.out.c3
  go_enter Tryz.func48, Tryz.ntmps48
  go_wp2_with fail
  rw [← hW]
  clear hW
  refine (ri_isSet HH.out.reads HH.out.few H1.out).mono ?_
  rintro e w1 ⟨rfl, hb⟩
  have HB1 := Lib.hid (HB.out.trans (hb.mono HB.out.size))
  have BX1 := Lib.hid (BX.out.next hb)
  clear hb q0 q1 q2 q3
  have q0 := BX1.out.c0
  have q1 := BX1.out.c1
  have q2 := BX1.out.c2
  have q3 := BX1.out.c3
  go_wp2
  go_ret
  exact ⟨rfl, HB1.out⟩
set_option maxRecDepth 100000 in
set_option maxHeartbeats 8000000 in
theorem refMay_d (A : Option Addr) (m c : Nat) (h : Hd) (w : World) (hh : HAsk w A m c h) (h0 : 0 < m) (h1 : rightB h.things = true) (h2 : 0 ≤ h.frm) (h3 : ¬ h.frm < h.to) :
    Calls Tryz.prog 48 #[.agg #[.int .i64 h.id, .slice A m c, .int .i64 h.frm, .int .i64 h.to]] w fun e w' => e = .returned (.bool false) ∧ Below w.heap.size w w' := by
  obtain ⟨W, hW⟩ : ∃ W, W = w.alloc (hO h A m c) := ⟨_, rfl⟩
  have BX : Hid (BoxH W w.heap.size h A m c) := Lib.hid (by rw [hW]; exact boxH_new w h A m c)
  have hb0 : Below w.heap.size w W := by rw [hW]; exact (Below.refl _ _).alloc (Nat.le_refl _) _
  have HB := Lib.hid hb0
  have HH := Lib.hid (hh.next hb0)
  unfold hO at hW
  have d0 : decide (0 < m) = true := decide_eq_true h0
  have H1 := Lib.hid h1
  have d2 : decide ((0 : Int) ≤ h.frm) = true := decide_eq_true h2
  have d3 : decide (h.frm < h.to) = false := decide_eq_false h3
  clear hb0 hh h1
  have q0 := BX.out.c0
  have q1 := BX.out.c1
  have q2 := BX.out.c2
  have q3 := BX.out.c3
  go_enter Tryz.func48, Tryz.ntmps48
  go_wp2_with fail
  rw [← hW]
  clear hW
  refine (ri_isSet HH.out.reads HH.out.few H1.out).mono ?_
  rintro e w1 ⟨rfl, hb⟩
  have HB1 := Lib.hid (HB.out.trans (hb.mono HB.out.size))
  have BX1 := Lib.hid (BX.out.next hb)
  clear hb q0 q1 q2 q3
  have q0 := BX1.out.c0
  have q1 := BX1.out.c1
  have q2 := BX1.out.c2
  have q3 := BX1.out.c3
  go_wp2
  go_ret
  exact ⟨rfl, HB1.out⟩
set_option maxRecDepth 100000 in
set_option maxHeartbeats 8000000 in
theorem refMay_e (A : Option Addr) (m c : Nat) (h : Hd) (w : World) (hh : HAsk w A m c h) (h0 : 0 < m) (h1 : rightB h.things = true) (h2 : 0 ≤ h.frm) (h3 : h.frm < h.to) (h4 : ¬ h.to ≤ 4611686018427387904) :
    Calls Tryz.prog 48 #[.agg #[.int .i64 h.id, .slice A m c, .int .i64 h.frm, .int .i64 h.to]] w fun e w' => e = .returned (.bool false) ∧ Below w.heap.size w w' := by
  obtain ⟨W, hW⟩ : ∃ W, W = w.alloc (hO h A m c) := ⟨_, rfl⟩
  have BX : Hid (BoxH W w.heap.size h A m c) := Lib.hid (by rw [hW]; exact boxH_new w h A m c)
  have hb0 : Below w.heap.size w W := by rw [hW]; exact (Below.refl _ _).alloc (Nat.le_refl _) _
  have HB := Lib.hid hb0
  have HH := Lib.hid (hh.next hb0)
  unfold hO at hW
  have d0 : decide (0 < m) = true := decide_eq_true h0
  have H1 := Lib.hid h1
  have d2 : decide ((0 : Int) ≤ h.frm) = true := decide_eq_true h2
  have d3 : decide (h.frm < h.to) = true := decide_eq_true h3
  have d4 : decide (h.to ≤ (4611686018427387904 : Int)) = false := decide_eq_false h4
  clear hb0 hh h1
  have q0 := BX.out.c0
  have q1 := BX.out.c1
  have q2 := BX.out.c2
  have q3 := BX.out.c3
  go_enter Tryz.func48, Tryz.ntmps48
  go_wp2_with fail
  rw [← hW]
  clear hW
  refine (ri_isSet HH.out.reads HH.out.few H1.out).mono ?_
  rintro e w1 ⟨rfl, hb⟩
  have HB1 := Lib.hid (HB.out.trans (hb.mono HB.out.size))
  have BX1 := Lib.hid (BX.out.next hb)
  clear hb q0 q1 q2 q3
  have q0 := BX1.out.c0
  have q1 := BX1.out.c1
  have q2 := BX1.out.c2
  have q3 := BX1.out.c3
  go_wp2
  go_ret
  exact ⟨rfl, HB1.out⟩
set_option maxRecDepth 100000 in
set_option maxHeartbeats 8000000 in
theorem refMay_f (A : Option Addr) (m c : Nat) (h : Hd) (w : World) (hh : HAsk w A m c h) (h0 : 0 < m) (h1 : rightB h.things = true) (h2 : 0 ≤ h.frm) (h3 : h.frm < h.to) (h4 : h.to ≤ 4611686018427387904) :
    Calls Tryz.prog 48 #[.agg #[.int .i64 h.id, .slice A m c, .int .i64 h.frm, .int .i64 h.to]] w fun e w' => e = .returned (.bool true) ∧ Below w.heap.size w w' := by
  obtain ⟨W, hW⟩ : ∃ W, W = w.alloc (hO h A m c) := ⟨_, rfl⟩
  have BX : Hid (BoxH W w.heap.size h A m c) := Lib.hid (by rw [hW]; exact boxH_new w h A m c)
  have hb0 : Below w.heap.size w W := by rw [hW]; exact (Below.refl _ _).alloc (Nat.le_refl _) _
  have HB := Lib.hid hb0
  have HH := Lib.hid (hh.next hb0)
  unfold hO at hW
  have d0 : decide (0 < m) = true := decide_eq_true h0
  have H1 := Lib.hid h1
  have d2 : decide ((0 : Int) ≤ h.frm) = true := decide_eq_true h2
  have d3 : decide (h.frm < h.to) = true := decide_eq_true h3
  have d4 : decide (h.to ≤ (4611686018427387904 : Int)) = true := decide_eq_true h4
  clear hb0 hh h1
  have q0 := BX.out.c0
  have q1 := BX.out.c1
  have q2 := BX.out.c2
  have q3 := BX.out.c3
  go_enter Tryz.func48, Tryz.ntmps48
  go_wp2_with fail
  rw [← hW]
  clear hW
  refine (ri_isSet HH.out.reads HH.out.few H1.out).mono ?_
  rintro e w1 ⟨rfl, hb⟩
  have HB1 := Lib.hid (HB.out.trans (hb.mono HB.out.size))
  have BX1 := Lib.hid (BX.out.next hb)
  clear hb q0 q1 q2 q3
  have q0 := BX1.out.c0
  have q1 := BX1.out.c1
  have q2 := BX1.out.c2
  have q3 := BX1.out.c3
  go_wp2
  go_ret
  exact ⟨rfl, HB1.out⟩
theorem refMayH_any (A : Option Addr) (m c : Nat) (h : Hd) (w : World) (hh : HAsk w A m c h) :
    Calls Tryz.prog 48 #[.agg #[.int .i64 h.id, .slice A m c, .int .i64 h.frm, .int .i64 h.to]] w fun e w' => e = .returned (.bool (mayH h)) ∧ Below w.heap.size w w' := by
  have hl := hh.reads.1
  by_cases h0 : 0 < m
  · cases h1 : rightB h.things with
    | false =>
      rw [show mayH h = false from decide_eq_false (fun e => by have := e.2.1; rw [h1] at this; cases this)]
      exact refMayH_b A m c h w hh h0 h1
    | true =>
      by_cases h2 : 0 ≤ h.frm
      · by_cases h3 : h.frm < h.to
        · by_cases h4 : h.to ≤ 4611686018427387904
          · rw [show mayH h = true from decide_eq_true ⟨by omega, h1, h2, h3, h4⟩]
            exact refMay_f A m c h w hh h0 h1 h2 h3 h4
          · rw [show mayH h = false from decide_eq_false (fun e => h4 e.2.2.2.2)]
            exact refMay_e A m c h w hh h0 h1 h2 h3 h4
        · rw [show mayH h = false from decide_eq_false (fun e => h3 e.2.2.2.1)]
          exact refMay_d A m c h w hh h0 h1 h2 h3
      · rw [show mayH h = false from decide_eq_false (fun e => h2 e.2.2.1)]
        exact refMay_c A m c h w hh h0 h1 h2
  · rw [show mayH h = false from decide_eq_false (fun e => h0 (by have := e.1; omega))]
    exact refMay_a A m c h w hh h0
theorem refMay_b' {A : Option Addr} {m c : Nat} {h : Hd} {w : World} {v : Bool} (hh : HAsk w A m c h) (e : mayH h = v) :
    Calls Tryz.prog 48 #[.agg #[.int .i64 h.id, .slice A m c, .int .i64 h.frm, .int .i64 h.to]] w fun e w' => e = .returned (.bool v) ∧ Below w.heap.size w w' := by
  subst e; exact refMayH_any A m c h w hh

set_option maxRecDepth 100000 in
set_option maxHeartbeats 8000000 in
theorem refClash_n (A : Option Addr) (m c : Nat) (A2 : Option Addr) (m2 c2 : Nat) (a b : Hd) (w : World) (ha : HAsk w A m c a) (hb : HAsk w A2 m2 c2 b) (h1 : meetsZ a.frm a.to b.frm b.to = false) :
    Calls Tryz.prog 49 #[.agg #[.int .i64 a.id, .slice A m c, .int .i64 a.frm, .int .i64 a.to], .agg #[.int .i64 b.id, .slice A2 m2 c2, .int .i64 b.frm, .int .i64 b.to]] w fun e w' => e = .returned (.bool false) ∧ Below w.heap.size w w' := by
  obtain ⟨W, hW⟩ : ∃ W, W = (w.alloc (hO a A m c)).alloc (hO b A2 m2 c2) := ⟨_, rfl⟩
  have BX : Hid (BoxH W w.heap.size a A m c) := Lib.hid (by rw [hW]; exact (boxH_new w a A m c).next ((Below.refl _ _).alloc (Nat.le_refl _) _))
  have BY : Hid (BoxH W (w.heap.size + 1) b A2 m2 c2) := Lib.hid (by
    have := boxH_new (w.alloc (hO a A m c)) b A2 m2 c2
    rw [show (w.alloc (hO a A m c)).heap.size = w.heap.size + 1 by simp] at this
    rw [hW]; exact this)
  have hb0 : Below w.heap.size w W := by rw [hW]; exact ((Below.refl _ _).alloc (Nat.le_refl _) _).alloc (by simp) _
  have HB := Lib.hid hb0
  have HA := Lib.hid (ha.next hb0)
  have HA2 := Lib.hid (hb.next hb0)
  unfold hO at hW
  have E1 := Lib.hid h1
  clear hb0 ha hb h1
  have p0 := BX.out.c0
  have p1 := BX.out.c1
  have p2 := BX.out.c2
  have p3 := BX.out.c3
  have q0 := BY.out.c0
  have q1 := BY.out.c1
  have q2 := BY.out.c2
  have q3 := BY.out.c3
  go_enter Tryz.func49, Tryz.ntmps49
  go_wp2_with fail
  rw [← hW]
  clear hW
  refine (refMeets_b E1.out).mono ?_
  rintro e w1 ⟨rfl, hb⟩
  have HB1 := Lib.hid (HB.out.trans (hb.mono HB.out.size))
  have BX1 := Lib.hid (BX.out.next hb)
  have BY1 := Lib.hid (BY.out.next hb)
  have HA1 := Lib.hid (HA.out.next hb)
  have HA3 := Lib.hid (HA2.out.next hb)
  clear hb p0 p1 p2 p3 q0 q1 q2 q3
  go_wp2
  go_ret
  exact ⟨rfl, HB1.out⟩
set_option maxRecDepth 100000 in
set_option maxHeartbeats 8000000 in
theorem refClash_y (A : Option Addr) (m c : Nat) (A2 : Option Addr) (m2 c2 : Nat) (a b : Hd) (w : World) (ha : HAsk w A m c a) (hb : HAsk w A2 m2 c2 b) (hra : rightB a.things = true) (hrb : rightB b.things = true) (h1 : meetsZ a.frm a.to b.frm b.to = true) :
    Calls Tryz.prog 49 #[.agg #[.int .i64 a.id, .slice A m c, .int .i64 a.frm, .int .i64 a.to], .agg #[.int .i64 b.id, .slice A2 m2 c2, .int .i64 b.frm, .int .i64 b.to]] w fun e w' => e = .returned (.bool (touchB a.things b.things)) ∧ Below w.heap.size w w' := by
  obtain ⟨W, hW⟩ : ∃ W, W = (w.alloc (hO a A m c)).alloc (hO b A2 m2 c2) := ⟨_, rfl⟩
  have BX : Hid (BoxH W w.heap.size a A m c) := Lib.hid (by rw [hW]; exact (boxH_new w a A m c).next ((Below.refl _ _).alloc (Nat.le_refl _) _))
  have BY : Hid (BoxH W (w.heap.size + 1) b A2 m2 c2) := Lib.hid (by
    have := boxH_new (w.alloc (hO a A m c)) b A2 m2 c2
    rw [show (w.alloc (hO a A m c)).heap.size = w.heap.size + 1 by simp] at this
    rw [hW]; exact this)
  have hb0 : Below w.heap.size w W := by rw [hW]; exact ((Below.refl _ _).alloc (Nat.le_refl _) _).alloc (by simp) _
  have HB := Lib.hid hb0
  have HA := Lib.hid (ha.next hb0)
  have HA2 := Lib.hid (hb.next hb0)
  unfold hO at hW
  have E1 := Lib.hid h1
  have R1 := Lib.hid hra
  have R2 := Lib.hid hrb
  obtain ⟨v, hv⟩ : ∃ v, touchB a.things b.things = v := ⟨_, rfl⟩
  rw [hv]
  have EV := Lib.hid hv
  clear hra hrb hv
  clear hb0 ha hb h1
  have p0 := BX.out.c0
  have p1 := BX.out.c1
  have p2 := BX.out.c2
  have p3 := BX.out.c3
  have q0 := BY.out.c0
  have q1 := BY.out.c1
  have q2 := BY.out.c2
  have q3 := BY.out.c3
  go_enter Tryz.func49, Tryz.ntmps49
  go_wp2_with fail
  rw [← hW]
  clear hW
  refine (refMeets_b E1.out).mono ?_
  rintro e w1 ⟨rfl, hb⟩
  have HB1 := Lib.hid (HB.out.trans (hb.mono HB.out.size))
  have BX1 := Lib.hid (BX.out.next hb)
  have BY1 := Lib.hid (BY.out.next hb)
  have HA1 := Lib.hid (HA.out.next hb)
  have HA3 := Lib.hid (HA2.out.next hb)
  clear hb p0 p1 p2 p3 q0 q1 q2 q3
  have p0 := BX1.out.c0
  have p1 := BX1.out.c1
  have p2 := BX1.out.c2
  have p3 := BX1.out.c3
  have q0 := BY1.out.c0
  have q1 := BY1.out.c1
  have q2 := BY1.out.c2
  have q3 := BY1.out.c3
  have ht := refTouch_any _ _ c _ _ c2 _ _ w1 HA1.out.reads HA3.out.reads HA1.out.few HA3.out.few R1.out R2.out
  rw [EV.out] at ht
  have HT := Lib.hid ht
  clear ht
  go_wp2_with fail
  refine HT.out.mono ?_
  rintro e w2 ⟨rfl, hb⟩
  have HB2 := Lib.hid (HB1.out.trans (hb.mono HB1.out.size))
  clear hb
  go_wp2
  go_ret
  exact ⟨rfl, HB2.out⟩
theorem refClash_b {A : Option Addr} {m c : Nat} {A2 : Option Addr} {m2 c2 : Nat} {a b : Hd} {w : World} {v : Bool} (ha : HAsk w A m c a) (hb : HAsk w A2 m2 c2 b) (hra : rightB a.things = true) (hrb : rightB b.things = true) (e : clashH a b = v) :
    Calls Tryz.prog 49 #[.agg #[.int .i64 a.id, .slice A m c, .int .i64 a.frm, .int .i64 a.to], .agg #[.int .i64 b.id, .slice A2 m2 c2, .int .i64 b.frm, .int .i64 b.to]] w fun e w' => e = .returned (.bool v) ∧ Below w.heap.size w w' := by
  subst e
  unfold clashH
  cases h : meetsZ a.frm a.to b.frm b.to with
  | false => exact refClash_n A m c A2 m2 c2 a b w ha hb h
  | true => exact refClash_y A m c A2 m2 c2 a b w ha hb hra hrb h

end Go.Proofs.YtchogijdkagiiaaGreatDoor
