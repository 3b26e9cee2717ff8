/- A row of elements of one's own: an element is stored; its cells, told flat. General: nothing of the program stands here. -/
import Derived.Test.YtaehhafdodoljaaReadM
import Derived.Test.YtaehhafdodoljaaBut
import Derived.Lib.SliceRun
import Derived.Laws.OwnMore
namespace Go.Proofs.Ytaehhafdodoljaa
open Go.RowKit

section
variable {α : Type} {E : Elem α} {t : TypeId} {w wr w1 : World} {g n cap : Nat} {xs : List α}
/-- the cells of a list of elements, one behind the other -/
theorem flat_of {C : Nat} {ok : Nat → Prop} {b : Nat} : ∀ (xs : List α) (off : Nat), (∀ j x, xs[j]? = some x → ∃ vs : List Value, vs.length = C ∧ (∀ i v, vs[i]? = some v → w.cell? ⟨b, off + (j * C + i), none⟩ = some v) ∧ E w ok x vs) →
    ∃ fl : List Value, fl.length = xs.length * C ∧ (∀ j u, fl[j]? = some u → w.cell? ⟨b, off + j, none⟩ = some u) ∧ ∀ j x, xs[j]? = some x → E w ok x ((fl.drop (j * C)).take C)
  | [], off, _ => ⟨[], by simp, fun j u h => by simp at h, fun j x h => by simp at h⟩
  | x :: r, off, h => by
    obtain ⟨vs, h1, h2, h3⟩ := h 0 x rfl
    obtain ⟨fl, k1, k2, k3⟩ := flat_of (C := C) r (off + C) (fun j y hy => by
      obtain ⟨us, u1, u2, u3⟩ := h (j + 1) y (by simpa using hy)
      refine ⟨us, u1, fun i v hv => ?_, u3⟩
      have := u2 i v hv
      rw [show off + ((j + 1) * C + i) = off + C + (j * C + i) by rw [Nat.add_mul, Nat.one_mul]; omega] at this
      exact this)
    refine ⟨vs ++ fl, by rw [List.length_append, h1, k1, List.length_cons, Nat.add_mul, Nat.one_mul]; omega, fun j u hu => ?_, fun j y hy => ?_⟩
    · by_cases hj : j < vs.length
      · rw [List.getElem?_append_left hj] at hu
        have := h2 j u hu
        rwa [show off + (0 * C + j) = off + j by omega] at this
      · rw [List.getElem?_append_right (by omega)] at hu
        have := k2 _ u hu
        rwa [show off + C + (j - vs.length) = off + j by omega] at this
    · cases j with
      | zero =>
        have : x = y := by simpa using hy
        subst this
        rw [Nat.zero_mul, List.drop_zero, List.take_append_of_le_length (by omega), List.take_of_length_le (by omega)]
        exact h3
      | succ j =>
        have e := k3 j y (by simpa using hy)
        rw [show (j + 1) * C = vs.length + j * C by rw [Nat.add_mul, Nat.one_mul, h1]; omega, List.drop_append, List.drop_of_length_le (by omega), List.nil_append, show vs.length + j * C - vs.length = j * C by omega]
        exact e
/-- where a row of one's own lies -/
theorem ON.block {C : Nat} (h : ON E C t w (.slice (some ⟨g, 0, none⟩) n cap) xs wr) {i : Nat} (hi : i < n * C) : (∃ u, wr.cell? ⟨g, i, none⟩ = some u) ∧ wr.frozen? ⟨g, i, none⟩ = false := by
  obtain ⟨fl, h1, _⟩ := h
  have hn : n = xs.length := by
    rcases h1.2 with ⟨e, _⟩ | ⟨g', cap', cur, e, _⟩
    · cases e
    · injection e
  subst hn
  refine ⟨?_, h1.frozenAt i⟩
  rw [h1.cellAt i hi, List.getElem?_eq_getElem (by rw [h1.1]; exact hi)]
  exact ⟨_, rfl⟩
theorem ON.head {C : Nat} {A : Option Addr} (h : ON E C t w (.slice A n cap) xs wr) (hn : 0 < n) : ∃ g, A = some ⟨g, 0, none⟩ ∧ w.heap.size ≤ g ∧ g < wr.heap.size := by
  obtain ⟨fl, h1, _⟩ := h
  rcases id h1.2 with ⟨e, h0⟩ | ⟨g', cap', cur, e, _⟩
  · injection e with e1 e2 e3
    omega
  · injection e with e1 e2 e3
    subst e1
    exact ⟨g', rfl, h1.lt g' rfl⟩
theorem heap_setRow (b : Nat) : ∀ (vs : List Value) (o : Nat) (w : World) {g : Nat}, b ≠ g → (w.setCells g o vs).heap[b]? = w.heap[b]?
  | [], _, _, _, _ => rfl
  | v :: r, o, w, g, h => by
    show ((w.setCell ⟨g, o, none⟩ v).setCells g (o + 1) r).heap[b]? = _
    rw [heap_setRow b r (o + 1) _ h, Below.heap_setCell _ _ _ _ h]
theorem size_setRow : ∀ (vs : List Value) (o : Nat) (w : World) (g : Nat), (w.setCells g o vs).heap.size = w.heap.size
  | [], _, _, _ => rfl
  | v :: r, o, w, g => by
    show ((w.setCell ⟨g, o, none⟩ v).setCells g (o + 1) r).heap.size = _
    rw [size_setRow r]
    simp [World.setCell]
theorem below_setRow {B g : Nat} {w0 : World} (hg : B ≤ g) : ∀ (vs : List Value) (o : Nat) (w : World), Below B w0 w → Below B w0 (w.setCells g o vs)
  | [], _, _, h => h
  | v :: r, o, w, h => by
    show Below B w0 ((w.setCell ⟨g, o, none⟩ v).setCells g (o + 1) r)
    exact below_setRow hg r (o + 1) _ (h.setCell (p := ⟨g, o, none⟩) hg v)
theorem own_setRow {C B : Nat} : ∀ (vs : List Value) (o : Nat) (wr : World) (fl : List Value), wr.ownsRow B t C (.slice (some ⟨g, 0, none⟩) n cap) n fl →
    ∃ fl' : List Value, (wr.setCells g o vs).ownsRow B t C (.slice (some ⟨g, 0, none⟩) n cap) n fl' ∧ ∀ k, fl'[k]? = if o ≤ k ∧ k < o + vs.length ∧ k < fl.length then vs[k - o]? else fl[k]?
  | [], o, wr, fl, h => ⟨fl, h, fun k => by rw [if_neg (by simp; omega)]⟩
  | v :: r, o, wr, fl, h => by
    obtain ⟨fl', f1, f2⟩ := own_setRow r (o + 1) _ _ (h.stored o v).1
    refine ⟨fl', f1, fun k => ?_⟩
    rw [f2 k, List.length_set, List.getElem?_set, List.length_cons]
    by_cases hk : k < fl.length
    · by_cases h1 : k = o
      · subst h1
        rw [if_neg (by omega), if_pos rfl, if_pos hk, if_pos ⟨Nat.le_refl _, by omega, hk⟩, Nat.sub_self]
        rfl
      · rw [if_neg (show ¬ o = k from fun e => h1 e.symm)]
        by_cases h2 : o + 1 ≤ k ∧ k < o + 1 + r.length
        · rw [if_pos ⟨h2.1, h2.2, hk⟩, if_pos ⟨by omega, by omega, hk⟩, show k - o = (k - (o + 1)) + 1 by omega]
          rfl
        · rw [if_neg (fun h => h2 ⟨h.1, h.2.1⟩), if_neg (fun h => h2 ⟨by omega, by omega⟩)]
    · by_cases ho : o = k
      · subst ho
        simp [hk]
      · simp [hk, ho]
/-- an element of a row of one's own is stored anew -/
theorem ON.setN {C : Nat} (hE : Steady E) (h : ON E C t w (.slice (some ⟨g, 0, none⟩) n cap) xs wr) {i : Nat} (hi : i < xs.length) {x : α} {vs : List Value} (hvs : vs.length = C) (hx : E wr (fun b => b < wr.heap.size ∧ b ≠ g) x vs) :
    ON E C t w (.slice (some ⟨g, 0, none⟩) n cap) (xs.set i x) (wr.setCells g (i * C) vs) := by
  obtain ⟨fl, h1, h2, h3⟩ := h
  have hn : n = xs.length := by
    rcases h1.2 with ⟨e, _⟩ | ⟨g', cap', cur, e, _⟩
    · cases e
    · injection e
  subst hn
  have hfl := h1.1
  have hgb : w.heap.size ≤ g := (h1.lt g rfl).1
  obtain ⟨fl', f1, f2⟩ := own_setRow vs (i * C) _ _ h1
  have hle : ∀ q, q < xs.length → q * C + C ≤ xs.length * C := fun q hq => by rw [← Nat.succ_mul]; exact Nat.mul_le_mul_right C hq
  refine ⟨fl', by rw [List.length_set]; exact f1, below_setRow hgb _ _ _ h2, fun j y hy => ?_⟩
  have hj : j < xs.length := by have := (List.getElem?_eq_some_iff.1 hy).1; rwa [List.length_set] at this
  by_cases hji : j = i
  · subst hji
    rw [List.getElem?_set_self hj] at hy
    have hy' : x = y := by simpa using hy
    subst hy'
    have e : (fl'.drop (j * C)).take C = vs := by
      apply List.ext_getElem?
      intro k
      by_cases hk : k < C
      · rw [List.getElem?_take_of_lt hk, List.getElem?_drop, f2, if_pos ⟨by omega, by omega, by have := hle j hj; omega⟩, show j * C + k - j * C = k by omega]
      · rw [List.getElem?_eq_none (by rw [List.length_take]; omega), List.getElem?_eq_none (by omega)]
    rw [e]
    exact hE.keep hx (fun b hb => heap_setRow b _ _ _ hb.2) (fun b hb => ⟨by rw [size_setRow]; exact hb.1, fun e => by
      have e' : g = b := by simpa [Value.ownBlock] using e
      exact hb.2 e'.symm⟩)
  · rw [List.getElem?_set_ne (fun e => hji e.symm)] at hy
    have e : (fl'.drop (j * C)).take C = (fl.drop (j * C)).take C := by
      apply List.ext_getElem?
      intro k
      rw [List.getElem?_take, List.getElem?_take]
      split
      · rename_i hk
        rw [List.getElem?_drop, List.getElem?_drop, f2, if_neg]
        rintro ⟨h4, h5, _⟩
        rcases Nat.lt_or_ge j i with h6 | h6
        · have : j * C + C ≤ i * C := by rw [← Nat.succ_mul]; exact Nat.mul_le_mul_right C h6
          omega
        · have : i * C + C ≤ j * C := by rw [← Nat.succ_mul]; exact Nat.mul_le_mul_right C (by omega)
          omega
      · rfl
    rw [e]
    refine hE.keep (h3 j y hy) (fun b hb => heap_setRow b _ _ _ (fun e => hb.2 (by rw [e]; rfl))) (fun b hb => ⟨by rw [size_setRow]; exact hb.1, hb.2⟩)
end
/-- a row of one's own behind block B, whose elements reach blocks that are 'ok' -/
def RowQ {α : Type} (E : Elem α) (C : Nat) (t : TypeId) (ok : Nat → Prop) (B : Nat) (v : Value) (xs : List α) (wr : World) : Prop :=
  ∃ fl : List Value, wr.ownsRow B t C v xs.length fl ∧ ∀ j x, xs[j]? = some x → E wr ok x ((fl.drop (j * C)).take C)
section
variable {α : Type} {E : Elem α} {C : Nat} {t : TypeId} {ok : Nat → Prop} {B : Nat} {v : Value} {xs : List α} {w wr w1 : World}
theorem RowQ.keep (hE : Steady E) (h : RowQ E C t ok B v xs wr) (hk : ∀ b, ok b ∨ v.ownBlock = some b → w1.heap[b]? = wr.heap[b]?) : RowQ E C t ok B v xs w1 := by
  obtain ⟨fl, h1, h2⟩ := h
  refine ⟨fl, ⟨h1.1, h1.2.imp id ?_⟩, fun j x hx => hE.keep (h2 j x hx) (fun b hb => hk b (.inl hb)) (fun _ h => h)⟩
  rintro ⟨g, cap, cur, e1, e2, e3, e4⟩
  exact ⟨g, cap, cur, e1, e2, (hk g (.inr (by rw [e1]; rfl))).trans e3, e4⟩
theorem RowQ.on (hE : Steady E) (h : RowQ E C t ok w.heap.size v xs wr) (hb : Below w.heap.size w wr) (hok : ∀ b, ok b → b < wr.heap.size ∧ v.ownBlock ≠ some b) : ON E C t w v xs wr := by
  obtain ⟨fl, h1, h2⟩ := h
  exact ⟨fl, h1, hb, fun j x hx => hE.keep (h2 j x hx) (fun _ _ => rfl) hok⟩
theorem RowQ.own (h : RowQ E C t ok B v xs wr) : ∀ b, v.ownBlock = some b → B ≤ b ∧ b < wr.heap.size := by
  obtain ⟨fl, h1, _⟩ := h
  exact h1.lt
theorem RowQ.form (h : RowQ E C t ok B v xs wr) : ∃ A c, v = .slice A xs.length c ∧ (A = none → c = 0) ∧ xs.length ≤ c := by
  obtain ⟨fl, h1, _⟩ := h
  rcases h1.2 with ⟨hv, h0⟩ | ⟨g, cap, cur, hv, _, _, hc, _⟩
  · exact ⟨none, 0, by rw [hv, h0], fun _ => rfl, by omega⟩
  · exact ⟨_, cap, hv, (fun e => by cases e), hc⟩
/-- its k-th element -/
theorem RowQ.at {A : Option Addr} {n c : Nat} (h : RowQ E C t ok B (.slice A n c) xs wr) {k : Nat} (hk : k < n) : ∃ g x vs, A = some ⟨g, 0, none⟩ ∧ B ≤ g ∧ g < wr.heap.size ∧ xs[k]? = some x ∧ vs.length = C ∧ (∀ i v, vs[i]? = some v → wr.cell? ⟨g, k * C + i, none⟩ = some v) ∧ E wr ok x vs := by
  obtain ⟨fl, h1, h2⟩ := h
  rcases id h1.2 with ⟨e, h0⟩ | ⟨g, cap, cur, e, _⟩
  · injection e with _ e2 _
    omega
  · injection e with e1 e2 e3
    subst e1 e2 e3
    obtain ⟨hb1, hb2⟩ := h1.lt g rfl
    have hx : xs[k]? = some xs[k] := List.getElem?_eq_getElem hk
    have hle : k * C + C ≤ fl.length := by rw [h1.1, ← Nat.succ_mul]; exact Nat.mul_le_mul_right C hk
    refine ⟨g, xs[k], _, rfl, hb1, hb2, hx, by rw [List.length_take, List.length_drop]; omega, fun i v hv => ?_, h2 k _ hx⟩
    have hi : i < C := by
      have := (List.getElem?_eq_some_iff.1 hv).1
      rw [List.length_take] at this
      omega
    rw [List.getElem?_take_of_lt hi, List.getElem?_drop] at hv
    rw [h1.cellAt (k * C + i) (by rw [← h1.1]; omega)]
    exact hv
end

end Go.Proofs.Ytaehhafdodoljaa
