/- A row of elements of one's own: an element is stored; its cells, told flat. General: nothing of the program stands here. A row of holdings of one's own: a holding is stored; a table's clone, a holding's own memory. Go's slices.Clone of numbers, by a walk over its text: a clone lies in memory of its own. The program's own, and slices.Clone of holdings: copies in memory of their own. The program's functions of layer 2 (when) that layer 3 calls: Right, Within, Plus: what they answer of any numbers. The program's when.Meets and may of layer 10: do two spans meet; may a holding be. Plain facts that the statements of layer 10 ask for. small of layer 13's statements. Written by gen/gen_slot.py. Plain facts for the reference's side of layer 13: what is free, thing by thing; the first slot, holding by holding. -/
import Derived.Lib.SliceRun
import Derived.Laws.OwnMore
import Derived.Test.YtpoalgkgomljmaaDoorMg06
import Derived.Test.YtpoalgkgomljmaaDoorMg03
import Derived.LoopTactic
import Derived.Deep.QuietTactic
import Derived.Test.YtpoalgkgomljmaaDoorMg01
import Derived.Test.YtpoalgkgomljmaaDoorMg05
import Derived.Below
import Derived.Test.YtpoalgkgomljmaaDoorMg02
namespace Go.Proofs.YtpoalgkgomljmaaDoor
open Go.RowKit

section
variable {α : Type} {E : Elem α} {t : TypeId} {w wr w1 : World} {g n cap : Nat} {xs : List α}
/-- the cells of a list of elements, one behind the other -/
theorem flat_of {C : Nat} {ok : Nat → Prop} {b : Nat} : ∀ (xs : List α) (off : Nat), (∀ j x, xs[j]? = some x → ∃ vs : List Value, vs.length = C ∧ (∀ i v, vs[i]? = some v → w.cell? ⟨b, off + (j * C + i), none⟩ = some v) ∧ E w ok x vs) →
    ∃ fl : List Value, fl.length = xs.length * C ∧ (∀ j u, fl[j]? = some u → w.cell? ⟨b, off + j, none⟩ = some u) ∧ ∀ j x, xs[j]? = some x → E w ok x ((fl.drop (j * C)).take C)
  | [], off, _ => ⟨[], by simp, fun j u h => by simp at h, fun j x h => by simp at h⟩
  | x :: r, off, h => by
    obtain ⟨vs, h1, h2, h3⟩ := h 0 x rfl
    obtain ⟨fl, k1, k2, k3⟩ := flat_of (C := C) r (off + C) (fun j y hy => by
      obtain ⟨us, u1, u2, u3⟩ := h (j + 1) y (by simpa using hy)
      refine ⟨us, u1, fun i v hv => ?_, u3⟩
      have := u2 i v hv
      rw [show off + ((j + 1) * C + i) = off + C + (j * C + i) by rw [Nat.add_mul, Nat.one_mul]; omega] at this
      exact this)
    refine ⟨vs ++ fl, by rw [List.length_append, h1, k1, List.length_cons, Nat.add_mul, Nat.one_mul]; omega, fun j u hu => ?_, fun j y hy => ?_⟩
    · by_cases hj : j < vs.length
      · rw [List.getElem?_append_left hj] at hu
        have := h2 j u hu
        rwa [show off + (0 * C + j) = off + j by omega] at this
      · rw [List.getElem?_append_right (by omega)] at hu
        have := k2 _ u hu
        rwa [show off + C + (j - vs.length) = off + j by omega] at this
    · cases j with
      | zero =>
        have : x = y := by simpa using hy
        subst this
        rw [Nat.zero_mul, List.drop_zero, List.take_append_of_le_length (by omega), List.take_of_length_le (by omega)]
        exact h3
      | succ j =>
        have e := k3 j y (by simpa using hy)
        rw [show (j + 1) * C = vs.length + j * C by rw [Nat.add_mul, Nat.one_mul, h1]; omega, List.drop_append, List.drop_of_length_le (by omega), List.nil_append, show vs.length + j * C - vs.length = j * C by omega]
        exact e
/-- where a row of one's own lies -/
theorem ON.block {C : Nat} (h : ON E C t w (.slice (some ⟨g, 0, none⟩) n cap) xs wr) {i : Nat} (hi : i < n * C) : (∃ u, wr.cell? ⟨g, i, none⟩ = some u) ∧ wr.frozen? ⟨g, i, none⟩ = false := by
  obtain ⟨fl, h1, _⟩ := h
  have hn : n = xs.length := by
    rcases h1.2 with ⟨e, _⟩ | ⟨g', cap', cur, e, _⟩
    · cases e
    · injection e
  subst hn
  refine ⟨?_, h1.frozenAt i⟩
  rw [h1.cellAt i hi, List.getElem?_eq_getElem (by rw [h1.1]; exact hi)]
  exact ⟨_, rfl⟩
theorem ON.head {C : Nat} {A : Option Addr} (h : ON E C t w (.slice A n cap) xs wr) (hn : 0 < n) : ∃ g, A = some ⟨g, 0, none⟩ ∧ w.heap.size ≤ g ∧ g < wr.heap.size := by
  obtain ⟨fl, h1, _⟩ := h
  rcases id h1.2 with ⟨e, h0⟩ | ⟨g', cap', cur, e, _⟩
  · injection e with e1 e2 e3
    omega
  · injection e with e1 e2 e3
    subst e1
    exact ⟨g', rfl, h1.lt g' rfl⟩
theorem heap_setRow (b : Nat) : ∀ (vs : List Value) (o : Nat) (w : World) {g : Nat}, b ≠ g → (w.setCells g o vs).heap[b]? = w.heap[b]?
  | [], _, _, _, _ => rfl
  | v :: r, o, w, g, h => by
    show ((w.setCell ⟨g, o, none⟩ v).setCells g (o + 1) r).heap[b]? = _
    rw [heap_setRow b r (o + 1) _ h, Below.heap_setCell _ _ _ _ h]
theorem size_setRow : ∀ (vs : List Value) (o : Nat) (w : World) (g : Nat), (w.setCells g o vs).heap.size = w.heap.size
  | [], _, _, _ => rfl
  | v :: r, o, w, g => by
    show ((w.setCell ⟨g, o, none⟩ v).setCells g (o + 1) r).heap.size = _
    rw [size_setRow r]
    simp [World.setCell]
theorem below_setRow {B g : Nat} {w0 : World} (hg : B ≤ g) : ∀ (vs : List Value) (o : Nat) (w : World), Below B w0 w → Below B w0 (w.setCells g o vs)
  | [], _, _, h => h
  | v :: r, o, w, h => by
    show Below B w0 ((w.setCell ⟨g, o, none⟩ v).setCells g (o + 1) r)
    exact below_setRow hg r (o + 1) _ (h.setCell (p := ⟨g, o, none⟩) hg v)
theorem own_setRow {C B : Nat} : ∀ (vs : List Value) (o : Nat) (wr : World) (fl : List Value), wr.ownsRow B t C (.slice (some ⟨g, 0, none⟩) n cap) n fl →
    ∃ fl' : List Value, (wr.setCells g o vs).ownsRow B t C (.slice (some ⟨g, 0, none⟩) n cap) n fl' ∧ ∀ k, fl'[k]? = if o ≤ k ∧ k < o + vs.length ∧ k < fl.length then vs[k - o]? else fl[k]?
  | [], o, wr, fl, h => ⟨fl, h, fun k => by rw [if_neg (by simp; omega)]⟩
  | v :: r, o, wr, fl, h => by
    obtain ⟨fl', f1, f2⟩ := own_setRow r (o + 1) _ _ (h.stored o v).1
    refine ⟨fl', f1, fun k => ?_⟩
    rw [f2 k, List.length_set, List.getElem?_set, List.length_cons]
    by_cases hk : k < fl.length
    · by_cases h1 : k = o
      · subst h1
        rw [if_neg (by omega), if_pos rfl, if_pos hk, if_pos ⟨Nat.le_refl _, by omega, hk⟩, Nat.sub_self]
        rfl
      · rw [if_neg (show ¬ o = k from fun e => h1 e.symm)]
        by_cases h2 : o + 1 ≤ k ∧ k < o + 1 + r.length
        · rw [if_pos ⟨h2.1, h2.2, hk⟩, if_pos ⟨by omega, by omega, hk⟩, show k - o = (k - (o + 1)) + 1 by omega]
          rfl
        · rw [if_neg (fun h => h2 ⟨h.1, h.2.1⟩), if_neg (fun h => h2 ⟨by omega, by omega⟩)]
    · by_cases ho : o = k
      · subst ho
        simp [hk]
      · simp [hk, ho]
/-- an element of a row of one's own is stored anew -/
theorem ON.setN {C : Nat} (hE : Steady E) (h : ON E C t w (.slice (some ⟨g, 0, none⟩) n cap) xs wr) {i : Nat} (hi : i < xs.length) {x : α} {vs : List Value} (hvs : vs.length = C) (hx : E wr (fun b => b < wr.heap.size ∧ b ≠ g) x vs) :
    ON E C t w (.slice (some ⟨g, 0, none⟩) n cap) (xs.set i x) (wr.setCells g (i * C) vs) := by
  obtain ⟨fl, h1, h2, h3⟩ := h
  have hn : n = xs.length := by
    rcases h1.2 with ⟨e, _⟩ | ⟨g', cap', cur, e, _⟩
    · cases e
    · injection e
  subst hn
  have hfl := h1.1
  have hgb : w.heap.size ≤ g := (h1.lt g rfl).1
  obtain ⟨fl', f1, f2⟩ := own_setRow vs (i * C) _ _ h1
  have hle : ∀ q, q < xs.length → q * C + C ≤ xs.length * C := fun q hq => by rw [← Nat.succ_mul]; exact Nat.mul_le_mul_right C hq
  refine ⟨fl', by rw [List.length_set]; exact f1, below_setRow hgb _ _ _ h2, fun j y hy => ?_⟩
  have hj : j < xs.length := by have := (List.getElem?_eq_some_iff.1 hy).1; rwa [List.length_set] at this
  by_cases hji : j = i
  · subst hji
    rw [List.getElem?_set_self hj] at hy
    have hy' : x = y := by simpa using hy
    subst hy'
    have e : (fl'.drop (j * C)).take C = vs := by
      apply List.ext_getElem?
      intro k
      by_cases hk : k < C
      · rw [List.getElem?_take_of_lt hk, List.getElem?_drop, f2, if_pos ⟨by omega, by omega, by have := hle j hj; omega⟩, show j * C + k - j * C = k by omega]
      · rw [List.getElem?_eq_none (by rw [List.length_take]; omega), List.getElem?_eq_none (by omega)]
    rw [e]
    exact hE.keep hx (fun b hb => heap_setRow b _ _ _ hb.2) (fun b hb => ⟨by rw [size_setRow]; exact hb.1, fun e => by
      have e' : g = b := by simpa [Value.ownBlock] using e
      exact hb.2 e'.symm⟩)
  · rw [List.getElem?_set_ne (fun e => hji e.symm)] at hy
    have e : (fl'.drop (j * C)).take C = (fl.drop (j * C)).take C := by
      apply List.ext_getElem?
      intro k
      rw [List.getElem?_take, List.getElem?_take]
      split
      · rename_i hk
        rw [List.getElem?_drop, List.getElem?_drop, f2, if_neg]
        rintro ⟨h4, h5, _⟩
        rcases Nat.lt_or_ge j i with h6 | h6
        · have : j * C + C ≤ i * C := by rw [← Nat.succ_mul]; exact Nat.mul_le_mul_right C h6
          omega
        · have : i * C + C ≤ j * C := by rw [← Nat.succ_mul]; exact Nat.mul_le_mul_right C (by omega)
          omega
      · rfl
    rw [e]
    refine hE.keep (h3 j y hy) (fun b hb => heap_setRow b _ _ _ (fun e => hb.2 (by rw [e]; rfl))) (fun b hb => ⟨by rw [size_setRow]; exact hb.1, hb.2⟩)
end
/-- a row of one's own behind block B, whose elements reach blocks that are 'ok' -/
def RowQ {α : Type} (E : Elem α) (C : Nat) (t : TypeId) (ok : Nat → Prop) (B : Nat) (v : Value) (xs : List α) (wr : World) : Prop :=
  ∃ fl : List Value, wr.ownsRow B t C v xs.length fl ∧ ∀ j x, xs[j]? = some x → E wr ok x ((fl.drop (j * C)).take C)
section
variable {α : Type} {E : Elem α} {C : Nat} {t : TypeId} {ok : Nat → Prop} {B : Nat} {v : Value} {xs : List α} {w wr w1 : World}
theorem RowQ.keep (hE : Steady E) (h : RowQ E C t ok B v xs wr) (hk : ∀ b, ok b ∨ v.ownBlock = some b → w1.heap[b]? = wr.heap[b]?) : RowQ E C t ok B v xs w1 := by
  obtain ⟨fl, h1, h2⟩ := h
  refine ⟨fl, ⟨h1.1, h1.2.imp id ?_⟩, fun j x hx => hE.keep (h2 j x hx) (fun b hb => hk b (.inl hb)) (fun _ h => h)⟩
  rintro ⟨g, cap, cur, e1, e2, e3, e4⟩
  exact ⟨g, cap, cur, e1, e2, (hk g (.inr (by rw [e1]; rfl))).trans e3, e4⟩
theorem RowQ.on (hE : Steady E) (h : RowQ E C t ok w.heap.size v xs wr) (hb : Below w.heap.size w wr) (hok : ∀ b, ok b → b < wr.heap.size ∧ v.ownBlock ≠ some b) : ON E C t w v xs wr := by
  obtain ⟨fl, h1, h2⟩ := h
  exact ⟨fl, h1, hb, fun j x hx => hE.keep (h2 j x hx) (fun _ _ => rfl) hok⟩
theorem RowQ.own (h : RowQ E C t ok B v xs wr) : ∀ b, v.ownBlock = some b → B ≤ b ∧ b < wr.heap.size := by
  obtain ⟨fl, h1, _⟩ := h
  exact h1.lt
theorem RowQ.form (h : RowQ E C t ok B v xs wr) : ∃ A c, v = .slice A xs.length c ∧ (A = none → c = 0) ∧ xs.length ≤ c := by
  obtain ⟨fl, h1, _⟩ := h
  rcases h1.2 with ⟨hv, h0⟩ | ⟨g, cap, cur, hv, _, _, hc, _⟩
  · exact ⟨none, 0, by rw [hv, h0], fun _ => rfl, by omega⟩
  · exact ⟨_, cap, hv, (fun e => by cases e), hc⟩
/-- its k-th element -/
theorem RowQ.at {A : Option Addr} {n c : Nat} (h : RowQ E C t ok B (.slice A n c) xs wr) {k : Nat} (hk : k < n) : ∃ g x vs, A = some ⟨g, 0, none⟩ ∧ B ≤ g ∧ g < wr.heap.size ∧ xs[k]? = some x ∧ vs.length = C ∧ (∀ i v, vs[i]? = some v → wr.cell? ⟨g, k * C + i, none⟩ = some v) ∧ E wr ok x vs := by
  obtain ⟨fl, h1, h2⟩ := h
  rcases id h1.2 with ⟨e, h0⟩ | ⟨g, cap, cur, e, _⟩
  · injection e with _ e2 _
    omega
  · injection e with e1 e2 e3
    subst e1 e2 e3
    obtain ⟨hb1, hb2⟩ := h1.lt g rfl
    have hx : xs[k]? = some xs[k] := List.getElem?_eq_getElem hk
    have hle : k * C + C ≤ fl.length := by rw [h1.1, ← Nat.succ_mul]; exact Nat.mul_le_mul_right C hk
    refine ⟨g, xs[k], _, rfl, hb1, hb2, hx, by rw [List.length_take, List.length_drop]; omega, fun i v hv => ?_, h2 k _ hx⟩
    have hi : i < C := by
      have := (List.getElem?_eq_some_iff.1 hv).1
      rw [List.length_take] at this
      omega
    rw [List.getElem?_take_of_lt hi, List.getElem?_drop] at hv
    rw [h1.cellAt (k * C + i) (by rw [← h1.1]; omega)]
    exact hv
end

end Go.Proofs.YtpoalgkgomljmaaDoor

namespace Go.Proofs.YtpoalgkgomljmaaDoor
open Go.RowKit

section
variable {α : Type} {E : Elem α} {t : TypeId} {w wr w1 : World} {g n cap : Nat} {xs : List α}
/-- an element of a row of one's own is stored anew -/
theorem ON.set4 (hE : Steady E) (h : ON E 4 t w (.slice (some ⟨g, 0, none⟩) n cap) xs wr) {i : Nat} (hi : i < xs.length) {x : α} {v0 v1 v2 v3 : Value} (hx : E wr (fun b => b < wr.heap.size ∧ b ≠ g) x [v0, v1, v2, v3]) :
    ON E 4 t w (.slice (some ⟨g, 0, none⟩) n cap) (xs.set i x) ((((wr.setCell ⟨g, i * 4, none⟩ v0).setCell ⟨g, i * 4 + 1, none⟩ v1).setCell ⟨g, i * 4 + 2, none⟩ v2).setCell ⟨g, i * 4 + 3, none⟩ v3) := by
  obtain ⟨fl, h1, h2, h3⟩ := h
  have hn : n = xs.length := by
    rcases h1.2 with ⟨e, _⟩ | ⟨g', cap', cur, e, _⟩
    · cases e
    · injection e
  subst hn
  have hfl := h1.1
  have s0 := (h1.stored (i * 4) v0).1
  have s1 := (s0.stored (i * 4 + 1) v1).1
  have s2 := (s1.stored (i * 4 + 2) v2).1
  have s3 := (s2.stored (i * 4 + 3) v3).1
  have hgb : w.heap.size ≤ g := (h1.lt g rfl).1
  have hk : ∀ b, b ≠ g → ((((wr.setCell ⟨g, i * 4, none⟩ v0).setCell ⟨g, i * 4 + 1, none⟩ v1).setCell ⟨g, i * 4 + 2, none⟩ v2).setCell ⟨g, i * 4 + 3, none⟩ v3).heap[b]? = wr.heap[b]? := fun b hb => by
    rw [Below.heap_setCell _ _ _ _ hb, Below.heap_setCell _ _ _ _ hb, Below.heap_setCell _ _ _ _ hb, Below.heap_setCell _ _ _ _ hb]
  have hsz : ((((wr.setCell ⟨g, i * 4, none⟩ v0).setCell ⟨g, i * 4 + 1, none⟩ v1).setCell ⟨g, i * 4 + 2, none⟩ v2).setCell ⟨g, i * 4 + 3, none⟩ v3).heap.size = wr.heap.size := by simp [World.setCell]
  refine ⟨_, by rw [List.length_set]; exact s3, (((h2.setCell (p := ⟨g, _, none⟩) hgb v0).setCell (p := ⟨g, _, none⟩) hgb v1).setCell (p := ⟨g, _, none⟩) hgb v2).setCell (p := ⟨g, _, none⟩) hgb v3, fun j y hy => ?_⟩
  have hj : j < xs.length := by have := (List.getElem?_eq_some_iff.1 hy).1; rwa [List.length_set] at this
  by_cases hji : j = i
  · subst hji
    rw [List.getElem?_set_self hj] at hy
    have hy' : x = y := by simpa using hy
    subst hy'
    have e : ((((((fl.set (j * 4) v0).set (j * 4 + 1) v1).set (j * 4 + 2) v2).set (j * 4 + 3) v3).drop (j * 4)).take 4) = [v0, v1, v2, v3] := by
      apply List.ext_getElem?
      intro k
      match k with
      | 0 => simp [List.getElem?_drop, List.getElem?_set]; omega
      | 1 => simp [List.getElem?_drop, List.getElem?_set]; omega
      | 2 => simp [List.getElem?_drop, List.getElem?_set]; omega
      | 3 => simp [List.getElem?_drop, List.getElem?_set]; omega
      | k + 4 => simp [List.getElem?_take]; omega
    rw [e]
    exact hE.keep hx (fun b hb => hk b hb.2) (fun b hb => ⟨by rw [hsz]; exact hb.1, fun e => by
      have e' : g = b := by simpa [Value.ownBlock] using e
      exact hb.2 e'.symm⟩)
  · rw [List.getElem?_set_ne (fun e => hji e.symm)] at hy
    have e : ((((((fl.set (i * 4) v0).set (i * 4 + 1) v1).set (i * 4 + 2) v2).set (i * 4 + 3) v3).drop (j * 4)).take 4) = (fl.drop (j * 4)).take 4 := by
      apply List.ext_getElem?
      intro k
      rw [List.getElem?_take, List.getElem?_take]
      split
      · rw [List.getElem?_drop, List.getElem?_drop, List.getElem?_set_ne (by omega), List.getElem?_set_ne (by omega), List.getElem?_set_ne (by omega), List.getElem?_set_ne (by omega)]
      · rfl
    rw [e]
    refine hE.keep (h3 j y hy) (fun b hb => hk b (fun e => hb.2 (by rw [e]; rfl))) (fun b hb => ⟨by rw [hsz]; exact hb.1, hb.2⟩)
end
/-- a table's cells are one cell each -/
theorem flat_one {ok : Nat → Prop} {w : World} {l : Tb} {fl : List Value} (h1 : fl.length = l.length * 4) (h : ∀ j x, l[j]? = some x → EH w ok x ((fl.drop (j * 4)).take 4)) : ∀ u ∈ fl, u.oneCell' = true := by
  intro u hu
  obtain ⟨k, hk, rfl⟩ := List.getElem_of_mem hu
  have hj : k / 4 < l.length := by omega
  obtain ⟨A, m, c, hv, _⟩ := h (k / 4) _ (List.getElem?_eq_getElem hj)
  have e : ((fl.drop (k / 4 * 4)).take 4)[k % 4]? = some fl[k] := by
    rw [List.getElem?_take_of_lt (by omega), List.getElem?_drop, show k / 4 * 4 + k % 4 = k by omega, List.getElem?_eq_getElem hk]
  rw [hv] at e
  have h4 : k % 4 < 4 := Nat.mod_lt _ (by omega)
  rcases (show k % 4 = 0 ∨ k % 4 = 1 ∨ k % 4 = 2 ∨ k % 4 = 3 by omega) with h0 | h0 | h0 | h0
  all_goals
    rw [h0] at e
    have e' := Option.some.inj e
    rw [← e']
    rfl

end Go.Proofs.YtpoalgkgomljmaaDoor

namespace Go.Proofs.YtpoalgkgomljmaaDoor
open Go.RowKit



end Go.Proofs.YtpoalgkgomljmaaDoor

namespace Go.Proofs.YtpoalgkgomljmaaDoor
open Go.RowKit

theorem BoxH.set {wr : World} {g j : Nat} {h h' : Hd} {A A' : Option Addr} {m c m' c' : Nat} {v : Value} (x : BoxH wr g h A m c) (e : (#[.int .i64 h.id, .slice A m c, .int .i64 h.frm, .int .i64 h.to] : Array Value).setIfInBounds j v = #[.int .i64 h'.id, .slice A' m' c', .int .i64 h'.frm, .int .i64 h'.to]) : BoxH (wr.setCell ⟨g, j, none⟩ v) g h' A' m' c' := by
  refine ⟨by simpa [World.setCell] using x.lt, ?_⟩
  show (wr.heap.modify g _)[g]? = _
  rw [Array.getElem?_modify, if_pos rfl, x.at']
  unfold hO
  simp only [Option.map_some]
  rw [← e]
  rfl
theorem BoxH.other {wr : World} {g b j : Nat} {h : Hd} {A : Option Addr} {m c : Nat} {v : Value} (x : BoxH wr g h A m c) (hb : g ≠ b) : BoxH (wr.setCell ⟨b, j, none⟩ v) g h A m c :=
  ⟨by simpa [World.setCell] using x.lt, (Below.heap_setCell _ _ _ _ hb).trans x.at'⟩

theorem own_keep {w wr : World} {B C n : Nat} {t : TypeId} {v : Value} {fl : List Value} (h : wr.ownsRow B t C v n fl) (hk : ∀ b, B ≤ b → w.heap[b]? = wr.heap[b]?) : w.ownsRow B t C v n fl := by
  refine ⟨h.1, h.2.imp id ?_⟩
  rintro ⟨g, cap, cur, e1, e2, e3, e4⟩
  exact ⟨g, cap, cur, e1, e2, (hk g e2).trans e3, e4⟩

/-- numbers in a row of one's own, which lies behind what was there -/
theorem rn_own {w : World} {base n c : Nat} {A : Option Addr} {t : TypeId} {xs : List Int} (h : w.ownsRow base t 1 (.slice A n c) n (xs.map (Value.int .i64))) : RN EI 1 w (fun b => base ≤ b ∧ b < w.heap.size) A n xs := by
  have hl : xs.length = n := by have := h.1; rw [List.length_map] at this; omega
  refine ⟨hl, fun h0 => ?_⟩
  rcases h.2 with ⟨_, e⟩ | ⟨g, cap, cur, e, _⟩
  · omega
  · injection e with e1 e2 e3
    subst e1 e3
    refine ⟨g, 0, rfl, h.lt g rfl, fun j x hx => ⟨[.int .i64 x], rfl, fun i v hv => ?_, rfl⟩⟩
    have hj := (List.getElem?_eq_some_iff.1 hx).1
    have hi : i = 0 := by have := (List.getElem?_eq_some_iff.1 hv).1; simpa using this
    subst hi
    have hv' : Value.int .i64 x = v := by simpa using hv
    subst hv'
    rw [show 0 + (j * 1 + 0) = j by omega, h.cellAt j (by omega), List.getElem?_map, hx]
    rfl


set_option maxRecDepth 100000 in
set_option maxHeartbeats 2000000 in
/-- a clone of a table lies in memory of its own; what its holdings reach is as it was -/
theorem cloneQ_any (B : Nat) (A : Option Addr) (n c : Nat) (l : Tb) (w : World) (hB : B ≤ w.heap.size) (hr : RT w B A n l) (hnil : A = none → c = 0) (hn : n ≤ 1000) :
    Calls Tryd.prog 37 #[.slice A n c] w fun e w' => ∃ v, e = .returned v ∧ Below w.heap.size w w' ∧ RowQ EH 4 39 (Lt B) w.heap.size v l w' := by
  obtain ⟨i0, hi0, hz0, hz1, hz2⟩ : ∃ i, Tryd.prog.info? 39 = some i ∧ i.zero = some (.agg #[.int .i64 0, .slice none 0 0, .int .i64 0, .int .i64 0]) ∧ i.size = 4 ∧ i.bytes = 48 := info_parts held_info
  have HR := Lib.hid hr
  have q22 : ∀ (w : World) (a : Option Addr) (n c n' c' : Nat), (binOp .eql 24 (.slice a n c) (.slice none n' c')).run Tryd.prog w = .ok (.bool a.isNone) w := fun w a n c n' c' => Lib.run_eql_slice_nil w _ _ a n c n' c' Tryd.underlying24
  cases A with
  | none =>
    obtain rfl := hnil rfl
    have hn0 : n = 0 := by
      rcases Nat.eq_zero_or_pos n with h0 | h0
      · exact h0
      · obtain ⟨b, off, e', _⟩ := hr.2 h0; cases e'
    subst hn0
    have hxs : Hid (l = []) := Lib.hid (List.eq_nil_of_length_eq_zero hr.1)
    clear hr hnil hn
    go_enter Tryd.func37, Tryd.ntmps37
    go_wp2
    go_ret
    exact ⟨_, rfl, Below.refl _ _, by rw [hxs.out]; exact ⟨[], by simpa using World.ownsRow_nil w w.heap.size 39 4, fun j x h => by simp at h⟩⟩
  | some ad =>
    obtain ⟨fl, f1, f2, f3⟩ : ∃ fl : List Value, fl.length = n * 4 ∧ (∀ j u, fl[j]? = some u → w.cell? (ad.add j) = some u) ∧ ∀ j x, l[j]? = some x → EH w (Lt B) x ((fl.drop (j * 4)).take 4) := by
      rcases Nat.eq_zero_or_pos n with h0 | h0
      · subst h0
        have : l = [] := List.eq_nil_of_length_eq_zero hr.1
        subst this
        exact ⟨[], rfl, fun j u h => by simp at h, fun j x h => by simp at h⟩
      · obtain ⟨b, off, e, hb, hc⟩ := hr.2 h0
        injection e with e
        subst e
        obtain ⟨fl, k1, k2, k3⟩ := flat_of (C := 4) l off hc
        exact ⟨fl, by rw [k1, hr.1], fun j u hu => by rw [show (⟨b, off, none⟩ : Addr).add j = ⟨b, off + j, none⟩ by unfold Addr.add; split <;> simp_all]; exact k2 j u hu, k3⟩
    have F1 := Lib.hid f1
    have F2 : Hid (∀ j u, fl[j]? = some u → (w.alloc (.cells #[] 39)).cell? (ad.add j) = some u) := Lib.hid (fun j u hu => by
      have h1 := f2 j u hu
      have hlt : (ad.add j).block < w.heap.size := World.block_lt_of_cell? _ _ h1
      exact (((Below.refl _ w).alloc (Nat.le_refl _) _).cell hlt).trans h1)
    have F3 := Lib.hid f3
    have FO : Hid (∀ u ∈ fl, u.oneCell' = true) := Lib.hid (flat_one (by rw [f1, hr.1]) f3)
    have HL := Lib.hid hr.1
    clear hr hnil f1 f2 f3
    go_enter Tryd.func37, Tryd.ntmps37
    go_wp2_with (at_builtin; refine wpList_append_own _ rfl _ _ 24 rfl w.heap.size 39 i0 (.agg #[.int .i64 0, .slice none 0 0, .int .i64 0, .int .i64 0]) 4 48 Tryd.underlying24 hi0 hz0 hz1 hz2 rfl (by decide) (.slice (some ⟨w.heap.size, 0, none⟩) 0 0) 0 [] rfl (World.ownsRow_made w #[] 0 (Nat.le_refl _) (Nat.zero_le _) rfl) ad n c fl rfl F1.out F2.out FO.out (by unfold maxLen; omega) (by omega) (by simp) ?_; intro v' w1 hown hgrow _; refine Hid.out ?_)
    refine Lib.hid ?_
    have hb1 : Below w.heap.size w w1 := ((Below.refl _ w).alloc (Nat.le_refl _) _).grown hgrow (by simp) (by intro k hk; have hk' : w.heap.size = k := (by simpa [Value.ownBlock] using hk); omega)
    have HO : Hid (RowQ EH 4 39 (Lt B) w.heap.size v' l w1) := Lib.hid ⟨fl, by have h := hown; rw [Nat.zero_add, List.nil_append] at h; rw [HL.out]; exact h, fun j x hx => eh_steady.keep (F3.out j x hx) (fun b hb => hb1.block b (Nat.lt_of_lt_of_le hb hB)) (fun _ h => h)⟩
    have HB1 := Lib.hid hb1
    clear hown hgrow hb1
    go_wp2
    go_ret
    exact ⟨_, rfl, HB1.out, HO.out⟩

theorem cloneH_any (A : Option Addr) (n c : Nat) (l : Tb) (w : World) (hr : RT w w.heap.size A n l) (hnil : A = none → c = 0) (hn : n ≤ 1000) :
    Calls Tryd.prog 37 #[.slice A n c] w fun e w' => ∃ v, e = .returned v ∧ ON EH 4 39 w v l w' :=
  (cloneQ_any w.heap.size A n c l w (Nat.le_refl _) hr hnil hn).mono fun _ _ ⟨v, h1, h2, h3⟩ => ⟨v, h1, h3.on eh_steady h2 (fun b hb => ⟨Nat.lt_of_lt_of_le hb h2.size, fun e => by
    have := (h3.own b e).1
    have hb' : b < w.heap.size := hb
    omega⟩)⟩
theorem set_getD {l : Tb} {k : Nat} (hk : k < l.length) : l.set k (l.getD k hd0) = l := by
  rw [List.getD, List.getElem?_eq_getElem hk]
  exact List.set_getElem_self hk

end Go.Proofs.YtpoalgkgomljmaaDoor

namespace Go.Proofs.YtpoalgkgomljmaaDoor
open Go.RowKit

def withinB (a b c d : Int) : Bool := decide (b ≤ a ∨ (c ≤ a ∧ b ≤ d))
def timeB (t : Int) : Bool := decide (0 ≤ t ∧ t ≤ 4611686018427387904)

theorem ret_bl {a b : Bool} (h : b = a) : Ending.returned (.bool a) = .returned (.bool b) := by rw [h]

theorem near_any (x : Int) (w : World) : Calls Tryd.prog 46 #[.int .i64 x] w fun e w' => e = .returned (.int .i64 (nearZ x)) ∧ w = w' := by
  by_cases h3 : x < 0
  · have e : Hid (nearZ x = 0) := Lib.hid (by unfold nearZ; rw [if_pos h3])
    have m1 : max x 0 = 0 := by omega
    have m2 : min (0 : Int) 4611686018427387904 = 0 := by omega
    go_enter Tryd.func46, Tryd.ntmps46
    go_wp2
    go_ret
    exact ⟨ret_num e.out.symm, rfl⟩
  · have m1 : max x 0 = x := by omega
    by_cases h4 : 4611686018427387904 < x
    · have e : Hid (nearZ x = 4611686018427387904) := Lib.hid (by unfold nearZ; rw [if_neg h3, if_pos h4])
      have m2 : min x 4611686018427387904 = 4611686018427387904 := by omega
      go_enter Tryd.func46, Tryd.ntmps46
      go_wp2
      go_ret
      exact ⟨ret_num e.out.symm, rfl⟩
    · have e : Hid (nearZ x = x) := Lib.hid (by unfold nearZ; rw [if_neg h3, if_neg h4])
      have m2 : min x 4611686018427387904 = x := by omega
      go_enter Tryd.func46, Tryd.ntmps46
      go_wp2
      go_ret
      refine ⟨ret_num ?_, rfl⟩
      rw [e.out]

theorem whenRight_any (t : Int) (w : World) : Calls Tryd.prog 21 #[.int .i64 t] w fun e w' => e = .returned (.bool (timeB t)) ∧ w = w' := by
  by_cases h : 0 ≤ t
  · by_cases h2 : t ≤ 4611686018427387904
    · have e : Hid (timeB t = true) := Lib.hid (by unfold timeB; exact decide_eq_true ⟨h, h2⟩)
      go_enter Tryd.func21, Tryd.ntmps21
      go_wp2
      go_ret
      exact ⟨ret_bl e.out, rfl⟩
    · have e : Hid (timeB t = false) := Lib.hid (by unfold timeB; exact decide_eq_false (fun h' => h2 h'.2))
      go_enter Tryd.func21, Tryd.ntmps21
      go_wp2
      go_ret
      exact ⟨ret_bl e.out, rfl⟩
  · have e : Hid (timeB t = false) := Lib.hid (by unfold timeB; exact decide_eq_false (fun h' => h h'.1))
    go_enter Tryd.func21, Tryd.ntmps21
    go_wp2
    go_ret
    exact ⟨ret_bl e.out, rfl⟩


theorem whenPlus_any (t l : Int) (w : World) : Calls Tryd.prog 32 #[.int .i64 t, .int .i64 l] w fun e w' => e = .returned (.int .i64 (plusZ t l)) ∧ w = w' := by
  have e : Hid (plusZ t l = if 4611686018427387904 < nearZ t + nearZ l then 4611686018427387904 else nearZ t + nearZ l) := Lib.hid rfl
  obtain ⟨z, hz⟩ : ∃ z, plusZ t l = z := ⟨_, rfl⟩
  rw [hz] at e ⊢
  clear hz
  go_enter Tryd.func32, Tryd.ntmps32
  go_wp2_with fail
  refine (near_any _ _).mono ?_
  rintro e w1 ⟨rfl, rfl⟩
  go_wp2_with fail
  refine (near_any _ _).mono ?_
  rintro e w1 ⟨rfl, rfl⟩
  have r1 := nearZ_range t
  have r2 := nearZ_range l
  generalize nearZ t = x at *
  generalize nearZ l = y at *
  by_cases h5 : 4611686018427387904 < x + y
  · have e2 : z = 4611686018427387904 := by rw [e.out, if_pos h5]
    have h6 : 4611686018427387904 - x < y := by omega
    subst e2
    clear e
    go_wp2
    go_ret
    exact ⟨rfl, rfl⟩
  · have e2 : z = x + y := by rw [e.out, if_neg h5]
    have h6 : ¬ 4611686018427387904 - x < y := by omega
    subst e2
    clear e
    go_wp2
    go_ret
    exact ⟨rfl, rfl⟩

theorem plusZ_i64 (t l : Int) : I64 (plusZ t l) := by
  have r1 := nearZ_range t
  have r2 := nearZ_range l
  unfold I64 plusZ
  split <;> omega

theorem whenRight_b (t : Int) (w : World) (b : Bool) (h : timeB t = b) : Calls Tryd.prog 21 #[.int .i64 t] w fun e w' => e = .returned (.bool b) ∧ w = w' := by
  subst h
  exact whenRight_any t w

end Go.Proofs.YtpoalgkgomljmaaDoor

namespace Go.Proofs.YtpoalgkgomljmaaDoor
open Go.RowKit

theorem meets_max (a b c d : Int) : meetsZ a b c d = decide (max a c < min b d) := by
  unfold meetsZ
  exact decide_eq_decide.2 (by omega)
theorem meets_any {a b c d : Int} {v : Bool} {w : World} (h : meetsZ a b c d = v) : Calls Tryd.prog 57 #[.int .i64 a, .int .i64 b, .int .i64 c, .int .i64 d] w fun e w' => e = .returned (.bool v) ∧ Below w.heap.size w w' := by
  rw [meets_max] at h
  obtain ⟨p, hp⟩ : ∃ p, max a c = p := ⟨_, rfl⟩
  obtain ⟨q, hq⟩ : ∃ q, min b d = q := ⟨_, rfl⟩
  rw [hp, hq] at h
  have HH := Lib.hid h
  clear h
  go_enter Tryd.func57, Tryd.ntmps57
  go_wp2
  all_goals
    go_ret
    exact ⟨ret_bl (HH.out.symm.trans (decide_eq_decide.2 (by omega))), Below.refl _ _⟩
theorem may_times (h : Hd) : mayH h = (decide (0 < h.things.length) && (rightB h.things && (timeB h.frm && (timeB h.to && decide (h.frm < h.to))))) := by
  unfold timeB
  rw [Bool.eq_iff_iff]
  unfold mayH
  simp only [decide_eq_true_eq, Bool.and_eq_true]
  unfold MayH
  constructor
  · rintro ⟨h1, h2, h3, h4, h5⟩
    exact ⟨h1, h2, ⟨h3, by omega⟩, ⟨by omega, h5⟩, h4⟩
  · rintro ⟨h1, h2, h3, h4, h5⟩
    exact ⟨h1, h2, h3.1, h5, h4.2⟩
theorem time_b {t : Int} {w : World} {b : Bool} (h : timeB t = b) : Calls Tryd.prog 21 #[.int .i64 t] w fun e w' => e = .returned (.bool b) ∧ Below w.heap.size w w' :=
  (whenRight_b t w b h).mono fun _ _ ⟨h1, h2⟩ => ⟨h1, by rw [← h2]; exact Below.refl _ _⟩

set_option maxRecDepth 100000 in
set_option maxHeartbeats 8000000 in
theorem may_any {A : Option Addr} {m c : Nat} {h : Hd} {w : World} {v : Bool} (hh : HAsk w A m c h) (hv : mayH h = v) :
    Calls Tryd.prog 17 #[.agg #[.int .i64 h.id, .slice A m c, .int .i64 h.frm, .int .i64 h.to]] w fun e w' => e = .returned (.bool v) ∧ Below w.heap.size w w' := by
  obtain ⟨W, hW⟩ : ∃ W, W = w.alloc (hO h A m c) := ⟨_, rfl⟩
  have BX : Hid (BoxH W w.heap.size h A m c) := Lib.hid (by rw [hW]; exact boxH_new w h A m c)
  have hb0 : Below w.heap.size w W := by rw [hW]; exact (Below.refl _ _).alloc (Nat.le_refl _) _
  have HB := Lib.hid hb0
  have HH := Lib.hid (hh.next hb0)
  have hml := hh.reads.1
  unfold hO at hW
  rw [may_times, hml] at hv
  have HV := Lib.hid hv
  clear hb0 hh hml hv
  have q0 := BX.out.c0
  have q1 := BX.out.c1
  have q2 := BX.out.c2
  have q3 := BX.out.c3
  by_cases h0 : 0 < m
  · have d0 : decide (0 < m) = true := decide_eq_true h0
    rw [d0, Bool.true_and] at HV
    cases hr : rightB h.things with
    | false =>
      rw [hr, Bool.false_and] at HV
      have HR := Lib.hid hr
      clear hr
      go_enter Tryd.func17, Tryd.ntmps17
      go_wp2_with fail
      rw [← hW]
      clear hW
      refine (s_isSet HH.out.reads HH.out.few HR.out).mono ?_
      rintro e w1 ⟨rfl, hb⟩
      have HB1 := Lib.hid (HB.out.trans (hb.mono HB.out.size))
      have BX1 := Lib.hid (BX.out.next hb)
      clear hb q0 q1 q2 q3
      go_wp2
      go_ret
      exact ⟨by rw [← HV.out]; rfl, HB1.out⟩
    | true =>
      rw [hr, Bool.true_and] at HV
      have HR := Lib.hid hr
      clear hr
      cases hf : timeB h.frm with
      | false =>
        rw [hf, Bool.false_and] at HV
        have HF := Lib.hid hf
        clear hf
        go_enter Tryd.func17, Tryd.ntmps17
        go_wp2_with fail
        rw [← hW]
        clear hW
        refine (s_isSet HH.out.reads HH.out.few HR.out).mono ?_
        rintro e w1 ⟨rfl, hb⟩
        have HB1 := Lib.hid (HB.out.trans (hb.mono HB.out.size))
        have BX1 := Lib.hid (BX.out.next hb)
        clear hb q0 q1 q2 q3
        have q2 := BX1.out.c2
        have q3 := BX1.out.c3
        go_wp2_with fail
        refine (time_b HF.out).mono ?_
        rintro e w2 ⟨rfl, hb⟩
        have HB2 := Lib.hid (HB1.out.trans (hb.mono HB1.out.size))
        clear hb q2 q3
        go_wp2
        go_ret
        exact ⟨by rw [← HV.out]; rfl, HB2.out⟩
      | true =>
        rw [hf, Bool.true_and] at HV
        have HF := Lib.hid hf
        clear hf
        cases ht : timeB h.to with
        | false =>
          rw [ht, Bool.false_and] at HV
          have HT := Lib.hid ht
          clear ht
          go_enter Tryd.func17, Tryd.ntmps17
          go_wp2_with fail
          rw [← hW]
          clear hW
          refine (s_isSet HH.out.reads HH.out.few HR.out).mono ?_
          rintro e w1 ⟨rfl, hb⟩
          have HB1 := Lib.hid (HB.out.trans (hb.mono HB.out.size))
          have BX1 := Lib.hid (BX.out.next hb)
          clear hb q0 q1 q2 q3
          have q2 := BX1.out.c2
          have q3 := BX1.out.c3
          go_wp2_with fail
          refine (time_b HF.out).mono ?_
          rintro e w2 ⟨rfl, hb⟩
          have HB2 := Lib.hid (HB1.out.trans (hb.mono HB1.out.size))
          have BX2 := Lib.hid (BX1.out.next hb)
          clear hb q2 q3
          have q2 := BX2.out.c2
          have q3 := BX2.out.c3
          go_wp2_with fail
          refine (time_b HT.out).mono ?_
          rintro e w3 ⟨rfl, hb⟩
          have HB3 := Lib.hid (HB2.out.trans (hb.mono HB2.out.size))
          clear hb q2 q3
          go_wp2
          go_ret
          exact ⟨by rw [← HV.out]; rfl, HB3.out⟩
        | true =>
          rw [ht, Bool.true_and] at HV
          have HT := Lib.hid ht
          clear ht
          have hv := HV.out
          go_enter Tryd.func17, Tryd.ntmps17
          go_wp2_with fail
          rw [← hW]
          clear hW
          refine (s_isSet HH.out.reads HH.out.few HR.out).mono ?_
          rintro e w1 ⟨rfl, hb⟩
          have HB1 := Lib.hid (HB.out.trans (hb.mono HB.out.size))
          have BX1 := Lib.hid (BX.out.next hb)
          clear hb q0 q1 q2 q3
          have q2 := BX1.out.c2
          have q3 := BX1.out.c3
          go_wp2_with fail
          refine (time_b HF.out).mono ?_
          rintro e w2 ⟨rfl, hb⟩
          have HB2 := Lib.hid (HB1.out.trans (hb.mono HB1.out.size))
          have BX2 := Lib.hid (BX1.out.next hb)
          clear hb q2 q3
          have q2 := BX2.out.c2
          have q3 := BX2.out.c3
          go_wp2_with fail
          refine (time_b HT.out).mono ?_
          rintro e w3 ⟨rfl, hb⟩
          have HB3 := Lib.hid (HB2.out.trans (hb.mono HB2.out.size))
          have BX3 := Lib.hid (BX2.out.next hb)
          clear hb q2 q3
          have q2 := BX3.out.c2
          have q3 := BX3.out.c3
          go_wp2
          all_goals
            go_ret
            exact ⟨ret_bl (by first | rfl | exact HV.out | (rw [← HV.out]; simp_all)), HB3.out⟩
  · have d0 : decide (0 < m) = false := decide_eq_false h0
    rw [d0, Bool.false_and] at HV
    go_enter Tryd.func17, Tryd.ntmps17
    go_wp2_with fail
    rw [← hW]
    clear hW
    go_wp2
    go_ret
    exact ⟨by rw [← HV.out]; rfl, HB.out⟩

end Go.Proofs.YtpoalgkgomljmaaDoor

namespace Go.Proofs.YtpoalgkgomljmaaDoor
open Go.RowKit

section
variable {l : Tb} {h a b : Hd}
theorem short_is (h : shortT l = true) : shortHB l := by
  have := of_decide_eq_true h
  refine ⟨this.1, fun x hx => ?_⟩
  obtain ⟨j, hj, rfl⟩ := List.getElem_of_mem hx
  have h2 := this.2 j hj
  rwa [show l.getD j hd0 = l[j] by simp [List.getD, hj]] at h2
theorem short_few' (h : shortT l = true) : FewT l := short_few (short_is h)
theorem ins_short (hl : shortHB l) (hh : h.things.length ≤ 60) : (insT l h).length ≤ 31 ∧ ∀ x ∈ insT l h, x.things.length ≤ 60 := by
  constructor
  · unfold insT
    have h1 := List.length_filter_le (fun x => decide (x.id < h.id)) l
    have : ∀ l : Tb, (l.filter fun x => decide (x.id < h.id)).length + (l.filter fun x => decide (h.id < x.id)).length ≤ l.length := by
      intro l
      induction l with
      | nil => simp
      | cons x l ih =>
        rw [List.filter_cons, List.filter_cons]
        by_cases h1 : x.id < h.id
        · have h2 : ¬ h.id < x.id := by omega
          simp [h1, h2]; omega
        · by_cases h2 : h.id < x.id <;> simp [h1, h2] <;> omega
    have := this l
    have h3 := hl.1
    simp; omega
  · intro x hx
    rcases mem_ins.1 hx with h1 | rfl
    · exact hl.2 x h1.1
    · exact hh
theorem ins_few (hl : shortHB l) (hh : h.things.length ≤ 60) : FewT (insT l h) := by
  obtain ⟨h1, h2⟩ := ins_short hl hh
  exact ⟨by omega, fun x hx => by have := h2 x hx; omega⟩
theorem add_no (h0 : addE l h ≠ 0) : addT l h = l := if_neg h0
theorem add_yes (hm : MayAdd l h) : addT l h = insT l h := if_pos (add_ok.2 hm)
theorem sameT_self (l : Tb) : sameT' l l = true := sameT_iff.2 rfl
theorem MayAdd.gotT (hm : MayAdd l h) : gotT (insT l h) h.id = true := by
  unfold Go.Proofs.YtpoalgkgomljmaaDoor.gotT
  rw [Bool.and_eq_true]
  exact ⟨rightT_is.2 hm.right', has_iff_id.2 ⟨h, hm.mem.2 (.inr rfl), rfl⟩⟩
theorem MayAdd.gotOld (hm : MayAdd l h) {x : Hd} (hx : x ∈ l) : Go.Proofs.YtpoalgkgomljmaaDoor.gotT (insT l h) x.id = true := by
  unfold Go.Proofs.YtpoalgkgomljmaaDoor.gotT
  rw [Bool.and_eq_true]
  exact ⟨rightT_is.2 hm.right', has_iff_id.2 ⟨x, hm.mem.2 (.inl hx), rfl⟩⟩
theorem MayAdd.dropE (hm : MayAdd l h) : Go.Proofs.YtpoalgkgomljmaaDoor.dropE (insT l h) h.id = 0 := by
  have h1 := hm.gotT
  unfold Go.Proofs.YtpoalgkgomljmaaDoor.gotT at h1
  rw [Bool.and_eq_true] at h1
  unfold Go.Proofs.YtpoalgkgomljmaaDoor.dropE
  rw [h1.1, h1.2]; rfl
theorem MayAdd.dropT (hm : MayAdd l h) : Go.Proofs.YtpoalgkgomljmaaDoor.dropT (insT l h) h.id = l := by
  unfold Go.Proofs.YtpoalgkgomljmaaDoor.dropT
  rw [if_pos hm.dropE]
  exact hm.drop
theorem MayAdd.cutE (hm : MayAdd l h) (z : Int) : Go.Proofs.YtpoalgkgomljmaaDoor.cutE (insT l h) h.id z = if z ≤ h.frm ∨ h.to < z then 1 else 0 := by
  have h1 := hm.gotT
  unfold Go.Proofs.YtpoalgkgomljmaaDoor.gotT at h1
  rw [Bool.and_eq_true] at h1
  unfold Go.Proofs.YtpoalgkgomljmaaDoor.cutE
  rw [h1.1, h1.2, getT_add hm]; rfl
theorem MayAdd.cutT (hm : MayAdd l h) {z : Int} (h1 : h.frm < z) (h2 : z ≤ h.to) : Go.Proofs.YtpoalgkgomljmaaDoor.cutT (insT l h) h.id z = (insT l h).map (shortH h.id z) := by
  unfold Go.Proofs.YtpoalgkgomljmaaDoor.cutT
  rw [if_pos (by rw [hm.cutE]; exact if_neg (by omega))]
  rfl
theorem MayAdd.cut_right (hm : MayAdd l h) {z : Int} (h1 : h.frm < z) (h2 : z ≤ h.to) : rightT ((insT l h).map (shortH h.id z)) = true :=
  rightT_is.2 (Go.Proofs.YtpoalgkgomljmaaDoor.cut_right hm.right' (hm.mem.2 (.inr rfl)) h1 h2)
theorem cut_over {id z : Int} (hr : rightT (l.map (shortH id z)) = true) : gotT (restT (l.map (shortH id z)) z) id = false := by
  unfold gotT
  rw [Bool.and_eq_false_iff]
  right
  rw [hasT_no]
  intro x hx he
  unfold restT at hx
  rw [if_pos hr, List.mem_filter] at hx
  obtain ⟨h1, h2⟩ := hx
  obtain ⟨y, _, rfl⟩ := List.mem_map.1 h1
  rw [short_id] at he
  have : (shortH id z y).to = z := by unfold shortH; rw [if_pos he]
  rw [this] at h2
  simp at h2
theorem over_len (l : Tb) (z : Int) : (restT l z).length + (goneT l z).length = l.length := by
  unfold restT goneT
  split
  · induction l with
    | nil => rfl
    | cons x l ih =>
      have : ∀ l : Tb, (l.filter fun x => decide (z < x.to)).length + (l.filter fun x => decide (x.to ≤ z)).length = l.length := by
        intro l
        induction l with
        | nil => rfl
        | cons x l ih =>
          rw [List.filter_cons, List.filter_cons]
          by_cases h1 : z < x.to
          · have h2 : ¬ x.to ≤ z := by omega
            simp [h1, h2]; omega
          · have h2 : x.to ≤ z := by omega
            simp [h1, h2]; omega
      exact this _
  · simp
theorem map_few {f : Hd → Hd} (hf : ∀ x, (f x).things = x.things) (h : FewT l) : FewT (l.map f) := by
  refine ⟨by simpa using h.1, fun x hx => ?_⟩
  obtain ⟨y, hy, rfl⟩ := List.mem_map.1 hx
  rw [hf]; exact h.2 y hy
theorem rest_few (h : FewT l) (z : Int) : FewT (restT l z) := by
  unfold restT
  split
  · exact ⟨Nat.le_trans (List.length_filter_le _ _) h.1, fun x hx => h.2 x (List.mem_filter.1 hx).1⟩
  · exact h
theorem gone_few (h : FewT l) (z : Int) : (goneT l z).length ≤ 100 := by
  unfold goneT
  split
  · exact Nat.le_trans (List.length_filter_le _ _) h.1
  · simp
theorem busy_len (l : Tb) (a b : Int) : (busyT l a b).length ≤ 256 := by
  unfold busyT
  split
  · exact length_pickL _
  · simp
theorem sumN_at {l : Tb} (t : Int) {k : Nat} (hk : k < l.length) {x : Hd} (hx : l.getD k hd0 = x) : sumN l t (k + 1) = sumN l t k + if meetsZ x.frm x.to t (t + 1) = true then x.things.length else 0 := by
  have h : l[k] = x := by rw [← hx, List.getD, List.getElem?_eq_getElem hk]; rfl
  rw [sumN_succ t hk, h]
theorem sumN_le {l : Tb} (h : shortHB l) (t : Int) : ∀ k, k ≤ l.length → sumN l t k ≤ 60 * k
  | 0, _ => by unfold sumN; simp
  | k + 1, hk => by
    have h1 := sumN_le h t k (by omega)
    have h2 := h.2 l[k] (List.getElem_mem (by omega))
    rw [sumN_succ t (by omega)]
    split <;> omega
theorem sumN_few {l : Tb} (h : shortHB l) (t : Int) {k : Nat} (hk : k ≤ l.length) : sumN l t k ≤ 1800 := by
  have h1 := sumN_le h t k hk
  have h2 := h.1
  omega
theorem addE_bad (hm : mayH h = false) : addE l h = 1 := by
  unfold addE
  rw [if_pos (by rw [hm, Bool.and_false])]
theorem addE_there (hr : rightT l = true) (hm : mayH h = true) (ht : hasT l h.id = true) : addE l h = 7 := by
  unfold addE
  rw [if_neg (by rw [hr, hm]; simp), if_pos ht]
theorem addE_apart (hr : rightT l = true) (hm : mayH h = true) (ht : hasT l h.id = false) (hl : l.length ≤ 30) : (addE l h == 0) = apartB (busyT l h.frm h.to) h.things := by
  have e : addE l h = if (l.any fun x => clashH x h) = true then 5 else 0 := by
    unfold addE
    rw [if_neg (by rw [hr, hm]; simp), if_neg (by rw [ht]; simp)]
    by_cases hc : (l.any fun x => clashH x h) = true
    · rw [if_pos (.inr hc), if_pos hc]
    · rw [if_neg (fun h1 => h1.elim (fun h1 => by omega) hc), if_neg hc]
  have hrh := (of_decide_eq_true hm).2.1
  have ha : apartB (busyT l h.frm h.to) h.things = !(l.any fun x => clashH x h) := by
    rw [Bool.eq_iff_iff]
    unfold apartB
    rw [busy_right, hrh, Bool.true_and, Bool.true_and, List.all_eq_true, Bool.not_eq_true', List.any_eq_false]
    constructor
    · intro hh x hx hcl
      unfold clashH at hcl
      rw [Bool.and_eq_true] at hcl
      obtain ⟨n, h1, h2⟩ := touch_iff.1 hcl.2
      have := hh n ((mem_busy hr).2 ⟨x, hx, hcl.1, h1⟩)
      rw [List.contains_iff_mem.2 h2] at this
      cases this
    · intro hh n hn
      obtain ⟨x, hx, h1, h2⟩ := (mem_busy hr).1 hn
      have := hh x hx
      cases hc : h.things.contains n with
      | false => rfl
      | true =>
        refine absurd ?_ this
        unfold clashH
        rw [h1, touch_iff.2 ⟨n, h2, List.contains_iff_mem.1 hc⟩]
        rfl
  rw [e, ha]
  cases l.any fun x => clashH x h <;> rfl
theorem got_is (hr : rightT l = true) (id : Int) : gotT l id = hasT l id := by unfold gotT; rw [hr, Bool.true_and]
theorem getD_in {l : Tb} {j : Nat} (hj : j < l.length) : l.getD j hd0 ∈ l := by
  rw [List.getD, List.getElem?_eq_getElem hj]; exact List.getElem_mem hj
theorem ends_len (l : Tb) (z : Int) : (endsT l z).length ≤ l.length := by
  unfold endsT
  split
  · have key : ∀ (x : Int) (l : List Int), (insZ x l).length ≤ l.length + 1 := by
      intro x l
      induction l with
      | nil => simp [insZ]
      | cons y r ih =>
        unfold insZ
        split
        · simp
        · split <;> simp
          omega
    have h1 : ∀ l : List Int, (l.foldr insZ []).length ≤ l.length := by
      intro l
      induction l with
      | nil => simp
      | cons x r ih =>
        have := key x (r.foldr insZ [])
        simp only [List.foldr_cons, List.length_cons]
        omega
    have h2 := h1 ((l.map Hd.to).filter fun t => decide (z < t))
    have h3 := List.length_filter_le (fun t : Int => decide (z < t)) (l.map Hd.to)
    rw [List.length_map] at h3
    omega
  · simp
end
section
variable {A : Option Addr} {n c : Nat} {A2 : Option Addr} {n2 c2 : Nat} {l a b : Tb} {w : World}
theorem short_b (hl : TAsk w A n c l) {v : Bool} (e : shortT l = v) : Calls Tryd.prog 10 #[.slice A n c] w fun e w' => e = .returned (.bool v) ∧ Below w.heap.size w w' := by
  subst e
  refine (refShortT_any A n c l w hl.reads hl.few).mono ?_
  rintro e w' ⟨rfl, rfl⟩
  exact ⟨rfl, Below.refl _ _⟩
end

end Go.Proofs.YtpoalgkgomljmaaDoor

namespace Go.Proofs.YtpoalgkgomljmaaDoor
open Go.RowKit

def SmallS (n n2 n3 : Nat) (l : Tb) (n4 : Nat) : Prop := n ≤ 40 ∧ n2 ≤ 60 ∧ n3 ≤ 12 ∧ shortT l = true ∧ n4 ≤ 8
instance (n n2 n3 : Nat) (l : Tb) (n4 : Nat) : Decidable (SmallS n n2 n3 l n4) := by unfold SmallS; infer_instance
theorem short_fewS {l : Tb} (h : shortT l = true) : FewT l := by
  have h1 := of_decide_eq_true h
  refine ⟨by omega, fun x hx => ?_⟩
  obtain ⟨i, hi, e⟩ := List.getElem_of_mem hx
  have := h1.2 i hi
  rw [List.getD, List.getElem?_eq_getElem hi] at this
  simp only [Option.getD_some] at this
  rw [← e]; omega
set_option maxRecDepth 100000 in
set_option maxHeartbeats 8000000 in
theorem smallS_b {A A2 A3 A4 : Option Addr} {n c n2 c2 n3 c3 n4 c4 : Nat} {l : Tb} {w : World} {v : Bool} (hl : TAsk w A3 n3 c3 l) (hv : decide (SmallS n n2 n3 l n4) = v) : Calls Tryd.prog 6 #[.slice A n c, .slice A2 n2 c2, .slice A3 n3 c3, .slice A4 n4 c4] w fun e w' => e = .returned (.bool v) ∧ Below w.heap.size w w' := by
  have TA := Lib.hid hl
  clear hl
  by_cases h1 : n ≤ 40
  rotate_left
  · have HV : Hid (v = false) := Lib.hid (by rw [← hv]; exact decide_eq_false fun h => by exact h1 h.1)
    have dn : decide ((n : Nat) ≤ 40) = false := decide_eq_false (by omega)
    have zzn : decide (((n : Nat) : Int) ≤ 40) = false := decide_eq_false (by omega)
    clear hv
    go_enter Tryd.func6, Tryd.ntmps6
    go_wp2
    go_ret
    exact ⟨by rw [HV.out]; rfl, Below.refl _ _⟩
  by_cases h2 : n2 ≤ 60
  rotate_left
  · have HV : Hid (v = false) := Lib.hid (by rw [← hv]; exact decide_eq_false fun h => by exact h2 h.2.1)
    have dn : decide ((n : Nat) ≤ 40) = true := decide_eq_true (by omega)
    have zzn : decide (((n : Nat) : Int) ≤ 40) = true := decide_eq_true (by omega)
    have dn2 : decide ((n2 : Nat) ≤ 60) = false := decide_eq_false (by omega)
    have zzn2 : decide (((n2 : Nat) : Int) ≤ 60) = false := decide_eq_false (by omega)
    clear hv
    go_enter Tryd.func6, Tryd.ntmps6
    go_wp2
    go_ret
    exact ⟨by rw [HV.out]; rfl, Below.refl _ _⟩
  by_cases h3 : n3 ≤ 12
  rotate_left
  · have HV : Hid (v = false) := Lib.hid (by rw [← hv]; exact decide_eq_false fun h => by exact h3 h.2.2.1)
    have dn : decide ((n : Nat) ≤ 40) = true := decide_eq_true (by omega)
    have zzn : decide (((n : Nat) : Int) ≤ 40) = true := decide_eq_true (by omega)
    have dn2 : decide ((n2 : Nat) ≤ 60) = true := decide_eq_true (by omega)
    have zzn2 : decide (((n2 : Nat) : Int) ≤ 60) = true := decide_eq_true (by omega)
    have dn3 : decide ((n3 : Nat) ≤ 12) = false := decide_eq_false (by omega)
    have zzn3 : decide (((n3 : Nat) : Int) ≤ 12) = false := decide_eq_false (by omega)
    clear hv
    go_enter Tryd.func6, Tryd.ntmps6
    go_wp2
    go_ret
    exact ⟨by rw [HV.out]; rfl, Below.refl _ _⟩
  cases hs : shortT l with
  | false =>
    have HSH := Lib.hid hs
    have HV : Hid (v = false) := Lib.hid (by rw [← hv]; exact decide_eq_false fun h => by rw [h.2.2.2.1] at hs; cases hs)
    have dn : decide ((n : Nat) ≤ 40) = true := decide_eq_true (by omega)
    have zzn : decide (((n : Nat) : Int) ≤ 40) = true := decide_eq_true (by omega)
    have dn2 : decide ((n2 : Nat) ≤ 60) = true := decide_eq_true (by omega)
    have zzn2 : decide (((n2 : Nat) : Int) ≤ 60) = true := decide_eq_true (by omega)
    have dn3 : decide ((n3 : Nat) ≤ 12) = true := decide_eq_true (by omega)
    have zzn3 : decide (((n3 : Nat) : Int) ≤ 12) = true := decide_eq_true (by omega)
    clear hv hs
    go_enter Tryd.func6, Tryd.ntmps6
    go_wp2_with fail
    refine (short_b TA.out HSH.out).mono ?_
    rintro e w1 ⟨rfl, hb⟩
    have HB := Lib.hid hb
    clear hb
    go_wp2
    go_ret
    exact ⟨by rw [HV.out]; rfl, HB.out⟩
  | true =>
    have HSH := Lib.hid hs
    by_cases h4 : n4 ≤ 8
    · have HV : Hid (v = true) := Lib.hid (by rw [← hv]; exact decide_eq_true ⟨h1, h2, h3, hs, h4⟩)
      have dn : decide ((n : Nat) ≤ 40) = true := decide_eq_true (by omega)
      have zzn : decide (((n : Nat) : Int) ≤ 40) = true := decide_eq_true (by omega)
      have dn2 : decide ((n2 : Nat) ≤ 60) = true := decide_eq_true (by omega)
      have zzn2 : decide (((n2 : Nat) : Int) ≤ 60) = true := decide_eq_true (by omega)
      have dn3 : decide ((n3 : Nat) ≤ 12) = true := decide_eq_true (by omega)
      have zzn3 : decide (((n3 : Nat) : Int) ≤ 12) = true := decide_eq_true (by omega)
      have dn4 : decide ((n4 : Nat) ≤ 8) = true := decide_eq_true (by omega)
      have zzn4 : decide (((n4 : Nat) : Int) ≤ 8) = true := decide_eq_true (by omega)
      clear hv hs
      go_enter Tryd.func6, Tryd.ntmps6
      go_wp2_with fail
      refine (short_b TA.out HSH.out).mono ?_
      rintro e w1 ⟨rfl, hb⟩
      have HB := Lib.hid hb
      clear hb
      go_wp2
      go_ret
      exact ⟨by rw [HV.out]; rfl, HB.out⟩
    · have HV : Hid (v = false) := Lib.hid (by rw [← hv]; exact decide_eq_false fun h => h4 h.2.2.2.2)
      have dn : decide ((n : Nat) ≤ 40) = true := decide_eq_true (by omega)
      have zzn : decide (((n : Nat) : Int) ≤ 40) = true := decide_eq_true (by omega)
      have dn2 : decide ((n2 : Nat) ≤ 60) = true := decide_eq_true (by omega)
      have zzn2 : decide (((n2 : Nat) : Int) ≤ 60) = true := decide_eq_true (by omega)
      have dn3 : decide ((n3 : Nat) ≤ 12) = true := decide_eq_true (by omega)
      have zzn3 : decide (((n3 : Nat) : Int) ≤ 12) = true := decide_eq_true (by omega)
      have dn4 : decide ((n4 : Nat) ≤ 8) = false := decide_eq_false (by omega)
      have zzn4 : decide (((n4 : Nat) : Int) ≤ 8) = false := decide_eq_false (by omega)
      clear hv hs
      go_enter Tryd.func6, Tryd.ntmps6
      go_wp2_with fail
      refine (short_b TA.out HSH.out).mono ?_
      rintro e w1 ⟨rfl, hb⟩
      have HB := Lib.hid hb
      clear hb
      go_wp2
      go_ret
      exact ⟨by rw [HV.out]; rfl, HB.out⟩

end Go.Proofs.YtpoalgkgomljmaaDoor

namespace Go.Proofs.YtpoalgkgomljmaaDoor

/-- is a thing held at a time of the span, by the holdings as they stand -/
def meetB (h : Hd) (a b x : Int) : Bool := decide (h.frm < b) && (decide (a < h.to) && hasB h.things x)
def rawB (l : Tb) (a b x : Int) : Bool := l.any fun h => meetB h a b x
def rawFree (use : List Int) (l : Tb) (a b : Int) : List Int := use.filter fun x => !rawB l a b x
section
variable {g : Gr} {use : List Int} {l : Tb} {s : Sp} {a b x : Int} {k : Nat}
theorem getD_hdS (h : k < l.length) : l.getD k hd0 = l[k] := by rw [List.getD, List.getElem?_eq_getElem h]; rfl
theorem raw_step (h : k < l.length) : rawB (l.take (k + 1)) a b x = (rawB (l.take k) a b x || meetB (l.getD k hd0) a b x) := by
  unfold rawB
  rw [List.take_succ_eq_append_getElem h, List.any_append, getD_hdS h]
  simp
theorem right_filter (p : Int → Bool) : ∀ {l : List Int}, rightB l = true → rightB (l.filter p) = true
  | [], _ => (show rightB [] = true by decide)
  | x :: r, h => by
    have ih := right_filter p (right_tail h)
    rw [List.filter_cons]
    split
    · exact right_cons (right_head h) ih fun y hy => right_below h y (List.mem_filter.1 hy).1
    · exact ih
/-- of a table that is right, and a span that isn't empty: what isn't held is what isn't busy -/
theorem raw_free (hl : rightT l = true) (hu : rightB use = true) (hab : a < b) : rawFree use l a b = freeS use l a b := by
  refine right_ext (right_filter _ hu) freeS_right fun n => ?_
  unfold rawFree
  rw [List.mem_filter, mem_freeS hu, mem_busy hl]
  refine and_congr_right fun _ => ?_
  unfold rawB
  rw [Bool.not_eq_true', Bool.eq_false_iff, Ne, List.any_eq_true]
  refine not_congr ⟨fun ⟨y, hy, h⟩ => ⟨y, hy, ?_⟩, fun ⟨y, hy, h1, h2⟩ => ⟨y, hy, ?_⟩⟩
  · unfold meetB at h
    rw [Bool.and_eq_true, Bool.and_eq_true, decide_eq_true_eq, decide_eq_true_eq] at h
    obtain ⟨h1, h2, h3⟩ := h
    have hy2 := ((rightT_is.1 hl).may y hy).2.2.2.1
    unfold meetsZ
    unfold hasB at h3
    rw [Bool.and_eq_true] at h3
    exact ⟨decide_eq_true ⟨hy2, hab, h1, h2⟩, List.contains_iff_mem.1 h3.2⟩
  · unfold meetsZ at h1
    have h1' := of_decide_eq_true h1
    unfold meetB hasB
    rw [Bool.and_eq_true, Bool.and_eq_true, Bool.and_eq_true, decide_eq_true_eq, decide_eq_true_eq]
    exact ⟨h1'.2.2.1, h1'.2.2.2, ((rightT_is.1 hl).may y hy).2.1, List.contains_iff_mem.2 h2⟩
/-- what the walk through all things comes to -/
theorem at_is {u t : Int} (h0 : 0 ≤ t) (h1 : t < 4611686018427387904) (hl : rightT l = true) (hu : rightB use = true) (he : endsS s t ≤ u) :
    hadB g (rawFree use l t (endsS s t)) s = decide (FitsS g use l s u t) ∧ findL g (rawFree use l t (endsS s t)) s = gotS g use l s u t := by
  cases hs : rightS s with
  | true =>
    rw [raw_free hl hu (endsS_after hs h0 h1)]
    cases hh : hadB g (freeS use l t (endsS s t)) s with
    | true =>
      have hf : FitsS g use l s u t := ⟨⟨h0, h1⟩, hl, hu, he, hh⟩
      exact ⟨(decide_eq_true hf).symm, (gotS_is hf).symm⟩
    | false =>
      have hf : ¬ FitsS g use l s u t := fun h => by rw [h.2.2.2.2] at hh; cases hh
      exact ⟨(decide_eq_false hf).symm, by rw [gotS_no hf]; unfold findL; rw [if_neg (by rw [hh]; decide)]⟩
  | false =>
    have hf : ¬ FitsS g use l s u t := fun h => by rw [(fits_spec h).2] at hs; cases hs
    have hh : hadB g (rawFree use l t (endsS s t)) s = false := by
      rw [Bool.eq_false_iff]
      intro h
      have := mayB_is (hadB_is.1 h).1
      rw [this.2.2] at hs; cases hs
    exact ⟨by rw [hh, decide_eq_false hf], by rw [gotS_no hf]; unfold findL; rw [if_neg (by rw [hh]; decide)]⟩
/-- of the holdings up to the k-th and the span's beginning: is it the first that fits -/
def BestK (g : Gr) (use : List Int) (l : Tb) (s : Sp) (frm u : Int) (k : Nat) (best : Int) : Prop :=
  (best = -1 ∧ ∀ t, (t = frm ∨ (frm ≤ t ∧ ∃ i, i < k ∧ (l.getD i hd0).to = t)) → ¬ FitsS g use l s u t) ∨
  (0 ≤ best ∧ (best = frm ∨ (frm ≤ best ∧ ∃ i, i < k ∧ (l.getD i hd0).to = best)) ∧ FitsS g use l s u best ∧ ∀ t, (t = frm ∨ (frm ≤ t ∧ ∃ i, i < k ∧ (l.getD i hd0).to = t)) → FitsS g use l s u t → best ≤ t)
theorem times_iff {frm t : Int} : (t = frm ∨ (frm ≤ t ∧ ∃ i, i < l.length ∧ (l.getD i hd0).to = t)) ↔ t ∈ timesS l frm := by
  rw [mem_timesS]
  constructor
  · rintro (h | ⟨h, i, hi, e⟩)
    · exact .inl h
    · by_cases h2 : t = frm
      · exact .inl h2
      · exact .inr ⟨by omega, l[i], List.getElem_mem hi, by rw [← e, getD_hdS hi]⟩
  · rintro (h | ⟨h, x, hx, e⟩)
    · exact .inl h
    · obtain ⟨i, hi, e2⟩ := List.getElem_of_mem hx
      exact .inr ⟨by omega, i, hi, by rw [getD_hdS hi, e2, e]⟩
theorem best_none {frm u best : Int} (h : BestK g use l s frm u l.length best) (hb : best < 0) : firstS g use l s frm u = none := by
  rcases h with ⟨_, h⟩ | ⟨h, _⟩
  · exact firstS_none.2 fun t ht => h t (times_iff.2 ht)
  · omega
theorem best_some {frm u best : Int} (h : BestK g use l s frm u l.length best) (hb : ¬ best < 0) : firstS g use l s frm u = some best := by
  rcases h with ⟨h, _⟩ | ⟨_, h1, h2, h3⟩
  · omega
  · exact firstS_some.2 ⟨⟨times_iff.1 h1, h2⟩, fun t ht hf => h3 t (times_iff.2 ht) hf⟩
theorem best_from {frm u : Int} (h0 : FitsS g use l s u frm) : BestK g use l s frm u 0 frm := by
  refine .inr ⟨h0.1.1, .inl rfl, h0, fun t ht _ => ?_⟩
  rcases ht with h | ⟨h, _⟩ <;> omega
theorem best_no {frm u : Int} (h0 : ¬ FitsS g use l s u frm) : BestK g use l s frm u 0 (-1) := by
  refine .inl ⟨rfl, fun t ht => ?_⟩
  rcases ht with h | ⟨_, i, hi, _⟩
  · rw [h]; exact h0
  · omega
theorem best_kfits {frm u best : Int} (hbk : BestK g use l s frm u k best) (hf : FitsS g use l s u (l.getD k hd0).to) (h1 : frm ≤ (l.getD k hd0).to) (h2 : best < 0 ∨ (l.getD k hd0).to < best) : BestK g use l s frm u (k + 1) (l.getD k hd0).to := by
  refine .inr ⟨hf.1.1, .inr ⟨h1, k, Nat.lt_succ_self k, rfl⟩, hf, fun t ht hft => ?_⟩
  have hold : (t = frm ∨ (frm ≤ t ∧ ∃ i, i < k ∧ (l.getD i hd0).to = t)) ∨ t = (l.getD k hd0).to := by
    rcases ht with h | ⟨h, i, hi, e⟩
    · exact .inl (.inl h)
    · by_cases hik : i = k
      · subst hik; exact .inr e.symm
      · exact .inl (.inr ⟨h, i, by omega, e⟩)
  rcases hold with h3 | h3
  · rcases hbk with ⟨_, h⟩ | ⟨_, _, _, h⟩
    · exact absurd hft (h t h3)
    · have h5 := h t h3 hft
      clear h3 h ht hft
      omega
  · rw [h3]; exact Int.le_refl _
theorem best_skip {frm u best : Int} (hbk : BestK g use l s frm u k best) (hs : (l.getD k hd0).to < frm ∨ (0 ≤ best ∧ best ≤ (l.getD k hd0).to) ∨ ¬ FitsS g use l s u (l.getD k hd0).to) : BestK g use l s frm u (k + 1) best := by
  have hold : ∀ t, (t = frm ∨ (frm ≤ t ∧ ∃ i, i < k + 1 ∧ (l.getD i hd0).to = t)) → (t = frm ∨ (frm ≤ t ∧ ∃ i, i < k ∧ (l.getD i hd0).to = t)) ∨ (t = (l.getD k hd0).to ∧ frm ≤ t) := by
    rintro t (h | ⟨h, i, hi, e⟩)
    · exact .inl (.inl h)
    · by_cases hik : i = k
      · subst hik; exact .inr ⟨e.symm, h⟩
      · exact .inl (.inr ⟨h, i, by omega, e⟩)
  rcases hbk with ⟨h1, h2⟩ | ⟨h1, h2, h3, h4⟩
  · refine .inl ⟨h1, fun t ht => ?_⟩
    rcases hold t ht with h5 | ⟨h5, h6⟩
    · exact h2 t h5
    · rcases hs with hs | hs | hs
      · omega
      · omega
      · rw [h5]; exact hs
  · refine .inr ⟨h1, h2.imp id fun ⟨h5, i, hi, e⟩ => ⟨h5, i, by omega, e⟩, h3, fun t ht hf => ?_⟩
    rcases hold t ht with h5 | ⟨h5, h6⟩
    · exact h4 t h5 hf
    · rcases hs with hs | hs | hs
      · omega
      · omega
      · rw [h5] at hf; exact absurd hf hs
/-- what is got at the best so far -/
def gotK (g : Gr) (use : List Int) (l : Tb) (s : Sp) (u best : Int) : List Int := if best < 0 then [] else gotS g use l s u best
theorem first_none {frm u : Int} (h : firstS g use l s frm u = none) : firstAtS g use l s frm u = 0 ∧ firstLS g use l s frm u = [] ∧ firstBS g use l s frm u = false := by
  unfold firstAtS firstLS firstBS
  rw [h]; exact ⟨rfl, rfl, rfl⟩
theorem first_some {frm u t : Int} (h : firstS g use l s frm u = some t) : firstAtS g use l s frm u = t ∧ firstLS g use l s frm u = gotS g use l s u t ∧ firstBS g use l s frm u = true := by
  unfold firstAtS firstLS firstBS
  rw [h]; exact ⟨rfl, rfl, rfl⟩
end

end Go.Proofs.YtpoalgkgomljmaaDoor
