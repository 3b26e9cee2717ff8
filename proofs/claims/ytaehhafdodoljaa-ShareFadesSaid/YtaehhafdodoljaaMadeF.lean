/- Words for memory: a slice that the call itself made ('make([]T, n)', elements of one cell), as a function of the place: stored at any place. General: nothing of the program stands here. -/
import Derived.Test.YtaehhafdodoljaaFillN
namespace Go.Proofs.Ytaehhafdodoljaa
open Go.RowKit

/-- block g, made in a world that keeps all that was there in w, has n cells; cell k holds V k -/
def MF (t : TypeId) (w : World) (g n : Nat) (V : Nat → Value) (wr : World) : Prop := wr.ownsRow w.heap.size t 1 (.slice (some ⟨g, 0, none⟩) n n) n ((List.range n).map V) ∧ Below w.heap.size w wr
section
variable {t : TypeId} {w w1 wr : World} {g n k : Nat} {V : Nat → Value}
theorem MF.below (h : MF t w g n V wr) : Below w.heap.size w wr := h.2
theorem MF.lt (h : MF t w g n V wr) : w.heap.size ≤ g ∧ g < wr.heap.size := h.1.lt g rfl
theorem made_one (z : Value) (n : Nat) : (madeCells #[z] (n * 1)).toList = (List.range n).map (fun _ => z) := by
  rw [Nat.mul_one]
  refine List.ext_getElem? (fun j => ?_)
  rw [List.getElem?_map]
  by_cases hj : j < n
  · rw [List.getElem?_range hj]
    simp [madeCells, hj, Nat.mod_one]
  · rw [List.getElem?_eq_none (l := List.range n) (by simp; omega)]
    simp [madeCells]; omega
theorem MF.made {z : Value} (h : wr.ownsRow w.heap.size t 1 (.slice (some ⟨g, 0, none⟩) n n) n (madeCells #[z] (n * 1)).toList) (hg : w.grownBy wr none) : MF t w g n (fun _ => z) wr := by
  rw [made_one] at h
  exact ⟨h, (Below.refl _ _).grown hg (Nat.le_refl _) (fun k hk => by cases hk)⟩
/-- what makes memory, and changes nothing that was there, leaves the row as it is -/
theorem MF.next (h : MF t w g n V wr) (hb : Below wr.heap.size wr w1) : MF t w g n V w1 := by
  refine ⟨⟨h.1.1, h.1.2.imp id ?_⟩, h.2.trans (hb.mono h.2.size)⟩
  rintro ⟨g', cap, cur, e1, e2, e3, e4⟩
  exact ⟨g', cap, cur, e1, e2, (hb.block g' (Array.getElem?_eq_some_iff.1 e3).1).trans e3, e4⟩
theorem MF.cell (h : MF t w g n V wr) (hk : k < n) : wr.cell? ⟨g, k, none⟩ = some (V k) := by
  rw [h.1.cellAt k (by omega), List.getElem?_map, List.getElem?_range hk]; rfl
theorem MF.frozen (h : MF t w g n V wr) : wr.frozen? ⟨g, k, none⟩ = false := h.1.frozenAt k
theorem MF.set (h : MF t w g n V wr) (u : Value) (hk : k < n) : MF t w g n (fun j => if j = k then u else V j) (wr.setCell ⟨g, k, none⟩ u) := by
  have hs := h.1.stored k u
  have hgl := h.lt
  refine ⟨?_, h.2.grown hs.2 h.2.size (fun b hb => by injection hb with hb; omega)⟩
  have e : ((List.range n).map V).set k u = (List.range n).map (fun j => if j = k then u else V j) := by
    refine List.ext_getElem? (fun j => ?_)
    rw [List.getElem?_map, List.getElem?_set, List.length_map, List.length_range]
    by_cases hj : j < n
    · rw [List.getElem?_range hj]
      by_cases e : k = j
      · subst e; simp [hj]
      · simp [e, Ne.symm e, List.getElem?_map, List.getElem?_range hj]
    · rw [List.getElem?_eq_none (l := List.range n) (by simp; omega)]
      by_cases e : k = j
      · omega
      · simp [e]; omega
  rw [← e]
  exact hs.1
theorem MF.own (h : MF t w g n V wr) : wr.ownsRow w.heap.size t 1 (.slice (some ⟨g, 0, none⟩) n n) n ((List.range n).map V) := h.1
end

end Go.Proofs.Ytaehhafdodoljaa
