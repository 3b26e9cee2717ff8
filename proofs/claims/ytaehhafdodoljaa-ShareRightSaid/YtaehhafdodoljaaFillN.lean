/- Words for memory: a slice that the call itself made with all its elements ('make([]T, n)', elements of one cell) and fills from the front, one store a round. General: nothing of the program stands here. -/
import Derived.Test.YtaehhafdodoljaaReadN
import Derived.Laws.OwnMore
namespace Go.Proofs.Ytaehhafdodoljaa
open Go.RowKit

/-- block g, made in a world that keeps all that was there in w, has n elements of one cell; the first of them read as xs -/
def FN {α : Type} (E : Elem α) (t : TypeId) (w : World) (g n : Nat) (xs : List α) (wr : World) : Prop :=
  ∃ fl : List Value, wr.ownsRow w.heap.size t 1 (.slice (some ⟨g, 0, none⟩) n n) n fl ∧ Below w.heap.size w wr ∧ xs.length ≤ n ∧
    ∀ (j : Nat) (x : α), xs[j]? = some x → ∃ u, fl[j]? = some u ∧ E wr (fun b => b < wr.heap.size ∧ b ≠ g) x [u]
section
variable {α : Type} {E : Elem α} {t : TypeId} {w w1 wr : World} {g n : Nat} {xs : List α}
theorem FN.below (h : FN E t w g n xs wr) : Below w.heap.size w wr := let ⟨_, _, h2, _⟩ := h; h2
theorem FN.lt (h : FN E t w g n xs wr) : w.heap.size ≤ g ∧ g < wr.heap.size := let ⟨_, h1, _⟩ := h; h1.lt g rfl
theorem FN.made {fl : List Value} (h : wr.ownsRow w.heap.size t 1 (.slice (some ⟨g, 0, none⟩) n n) n fl) (hg : w.grownBy wr none) : FN E t w g n [] wr :=
  ⟨fl, h, (Below.refl _ _).grown hg (Nat.le_refl _) (fun k hk => by cases hk), Nat.zero_le _, fun j x hx => by simp at hx⟩
/-- what makes memory, and changes nothing that was there, leaves the row as it is -/
theorem FN.next (hE : Steady E) (h : FN E t w g n xs wr) (hb : Below wr.heap.size wr w1) : FN E t w g n xs w1 := by
  obtain ⟨fl, h1, h2, h3, h4⟩ := h
  refine ⟨fl, ⟨h1.1, h1.2.imp id ?_⟩, h2.trans (hb.mono h2.size), h3, fun j x hx => ?_⟩
  · rintro ⟨g', cap, cur, e1, e2, e3, e4⟩
    exact ⟨g', cap, cur, e1, e2, (hb.block g' (Array.getElem?_eq_some_iff.1 e3).1).trans e3, e4⟩
  · obtain ⟨u, hu, he⟩ := h4 j x hx
    exact ⟨u, hu, hE.keep he (fun b hb' => hb.block b hb'.1) (fun b hb' => ⟨Nat.lt_of_lt_of_le hb'.1 hb.size, hb'.2⟩)⟩
theorem FN.drew (hE : Steady E) (h : FN E t w g n xs wr) (q : Nat) : FN E t w g n xs (wr.drewN q) := h.next hE ⟨rfl, rfl, rfl, Nat.le_refl _, fun _ _ => rfl⟩
/-- a cell of the row is there, and may be written -/
theorem FN.slot (h : FN E t w g n xs wr) {k : Nat} (hk : k < n) : (∃ u, wr.cell? ⟨g, k, none⟩ = some u) ∧ wr.frozen? ⟨g, k, none⟩ = false := by
  obtain ⟨fl, h1, _⟩ := h
  refine ⟨?_, h1.frozenAt k⟩
  rw [h1.cellAt k (by omega)]
  have hl : k < fl.length := by rw [h1.1]; omega
  exact ⟨_, List.getElem?_eq_getElem hl⟩
/-- one element more is stored -/
theorem FN.set (hE : Steady E) (h : FN E t w g n xs wr) {x : α} {u : Value} {k : Nat} (hk : xs.length = k) (hn : k < n) (hx : E wr (fun b => b < wr.heap.size ∧ b ≠ g) x [u]) : FN E t w g n (xs ++ [x]) (wr.setCell ⟨g, k, none⟩ u) := by
  obtain ⟨fl, h1, h2, h3, h4⟩ := h
  have hs := h1.stored k u
  have hgl := h1.lt g rfl
  have hkeep : ∀ b, (b < wr.heap.size ∧ b ≠ g) → (wr.setCell ⟨g, k, none⟩ u).heap[b]? = wr.heap[b]? := fun b hb =>
    hs.2.block b hb.1 (fun e => hb.2 (by injection e))
  have hok : ∀ b, (b < wr.heap.size ∧ b ≠ g) → (b < (wr.setCell ⟨g, k, none⟩ u).heap.size ∧ b ≠ g) := fun b hb => ⟨Nat.lt_of_lt_of_le hb.1 hs.2.size, hb.2⟩
  refine ⟨fl.set k u, hs.1, h2.grown hs.2 h2.size (fun b hb => by injection hb with hb; omega), by simp; omega, fun j y hy => ?_⟩
  rcases Nat.lt_trichotomy j k with hj | hj | hj
  · rw [List.getElem?_append_left (by omega)] at hy
    obtain ⟨v, hv, he⟩ := h4 j y hy
    exact ⟨v, by rw [List.getElem?_set_ne (by omega)]; exact hv, hE.keep he hkeep hok⟩
  · subst hj
    rw [List.getElem?_append_right (by omega), hk, Nat.sub_self] at hy
    have hy' : x = y := by simpa using hy
    subst hy'
    exact ⟨u, by rw [List.getElem?_set_self (by rw [h1.1]; omega)], hE.keep hx hkeep hok⟩
  · rw [List.getElem?_eq_none (by simp; omega)] at hy
    cases hy
/-- filled, it reads -/
theorem FN.reads (hE : Steady E) (h : FN E t w g n xs wr) (hn : xs.length = n) : RN E 1 wr (Lt wr.heap.size) (some ⟨g, 0, none⟩) n xs := by
  have hg := h.lt.2
  obtain ⟨fl, h1, h2, h3, h4⟩ := h
  refine ⟨hn, fun _ => ⟨g, 0, rfl, hg, fun j x hx => ?_⟩⟩
  obtain ⟨u, hu, he⟩ := h4 j x hx
  have hj := (List.getElem?_eq_some_iff.1 hx).1
  refine ⟨[u], rfl, fun i v hv => ?_, hE.keep he (fun _ _ => rfl) (fun _ hb => hb.1)⟩
  have hi : i = 0 := by
    have := (List.getElem?_eq_some_iff.1 hv).1
    simpa using this
  subst hi
  have hv' : u = v := by simpa using hv
  subst hv'
  rw [show 0 + (j * 1 + 0) = j by omega, h1.cellAt j (by omega)]
  exact hu
end

end Go.Proofs.Ytaehhafdodoljaa
