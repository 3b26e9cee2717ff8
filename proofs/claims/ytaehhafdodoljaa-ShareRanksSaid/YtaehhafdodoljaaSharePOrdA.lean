/- The program's Order, up to its sorting: the shares and the places, laid in rows of its own. Written by gen/gen_sharep.py. -/
import Derived.Test.YtaehhafdodoljaaSharePClo
import Derived.Test.YtaehhafdodoljaaMadeF
namespace Go.Proofs.Ytaehhafdodoljaa
open Go.RowKit

/-- what the loop has laid: k shares and k places -/
structure OrdSt (w : World) (A : Option Addr) (n c : Nat) (l : List Us) (bl gs bs gp k : Nat) (V U : Nat → Value) (wr : World) : Prop where
  fl : MF 22 w gs n V wr
  it : MF 3 w gp n U wr
  cl : wr.heap[bl]? = some (.cells #[.slice A n c] 33)
  cs : wr.heap[bs]? = some (.cells #[.slice (some ⟨gs, 0, none⟩) n n] 23)
  ne : w.heap.size ≤ bl ∧ bl < gs ∧ gs < bs ∧ bs < gp ∧ gp < wr.heap.size
  v : ∀ i, i < k → V i = .float .f64 (shareU (l.getD i us0))
  u : ∀ i, i < k → U i = .int .i64 i
section
variable {w wr w1 : World} {A : Option Addr} {n c bl gs bs gp k g : Nat} {l : List Us} {V U : Nat → Value} {T : TypeId} {t : TypeId}
theorem MF.mk' {z : Value} (h : wr.ownsRow w.heap.size t 1 (.slice (some ⟨g, 0, none⟩) n n) n (madeCells #[z] (n * 1)).toList) (hb : Below w.heap.size w wr) : MF t w g n (fun _ => z) wr := by
  rw [made_one] at h
  exact ⟨h, hb⟩
/-- a store into another block that is new -/
theorem MF.other (h : MF t w g n V wr) {g' : Nat} (hne : g ≠ g') (hg : w.heap.size ≤ g') (j : Nat) (x : Value) : MF t w g n V (wr.setCell ⟨g', j, none⟩ x) := by
  refine ⟨⟨h.1.1, h.1.2.imp id ?_⟩, ?_⟩
  · rintro ⟨g1, cap, cur, e1, e2, e3, e4⟩
    have : g1 = g := by injection e1 with e1; injection e1 with e1; injection e1 with e1; exact e1.symm
    subst this
    exact ⟨g1, cap, cur, e1, e2, (Below.heap_setCell _ _ _ _ hne).trans e3, e4⟩
  · exact h.2.trans ⟨rfl, rfl, rfl, by simp [World.setCell], fun b hb => Below.heap_setCell _ _ _ _ (show b ≠ g' by omega)⟩
theorem OrdSt.below (h : OrdSt w A n c l bl gs bs gp k V U wr) : Below w.heap.size w wr := h.fl.below
theorem OrdSt.next (h : OrdSt w A n c l bl gs bs gp k V U wr) (hb : Below wr.heap.size wr w1) : OrdSt w A n c l bl gs bs gp k V U w1 :=
  ⟨h.fl.next hb, h.it.next hb, (hb.block _ (by have := h.ne; omega)).trans h.cl, (hb.block _ (by have := h.ne; omega)).trans h.cs, by have := h.ne; have := hb.size; omega, h.v, h.u⟩
theorem OrdSt.c0 (h : OrdSt w A n c l bl gs bs gp k V U wr) : wr.cell? ⟨bl, 0, none⟩ = some (.slice A n c) := (cell_of_row wr bl 0 _ _ (0, 0) h.cl).trans rfl
theorem OrdSt.c1 (h : OrdSt w A n c l bl gs bs gp k V U wr) : wr.cell? ⟨bs, 0, none⟩ = some (.slice (some ⟨gs, 0, none⟩) n n) := (cell_of_row wr bs 0 _ _ (0, 0) h.cs).trans rfl
theorem OrdSt.step (h : OrdSt w A n c l bl gs bs gp k V U wr) (hk : k < n) : ∃ V' U', OrdSt w A n c l bl gs bs gp (k + 1) V' U' ((wr.setCell ⟨gs, k, none⟩ (.float .f64 (shareU (l.getD k us0)))).setCell ⟨gp, k, none⟩ (.int .i64 k)) := by
  have hn := h.ne
  refine ⟨_, _, (h.fl.set _ hk).other (by omega) (by omega) _ _, (h.it.other (by omega) (by omega) _ _).set _ hk, ?_, ?_, ⟨hn.1, hn.2.1, hn.2.2.1, hn.2.2.2.1, by simpa [World.setCell] using hn.2.2.2.2⟩, fun i hi => ?_, fun i hi => ?_⟩
  · rw [Below.heap_setCell _ _ _ _ (show bl ≠ gp by omega), Below.heap_setCell _ _ _ _ (show bl ≠ gs by omega)]; exact h.cl
  · rw [Below.heap_setCell _ _ _ _ (show bs ≠ gp by omega), Below.heap_setCell _ _ _ _ (show bs ≠ gs by omega)]; exact h.cs
  · by_cases e : i = k
    · subst e; rw [if_pos rfl]
    · rw [if_neg e]; exact h.v i (by omega)
  · by_cases e : i = k
    · subst e; rw [if_pos rfl]
    · rw [if_neg e]; exact h.u i (by omega)
theorem OrdSt.first {w2 w4 : World} (h1 : w2.ownsRow w.heap.size 22 1 (.slice (some ⟨gs, 0, none⟩) n n) n (madeCells #[.float .f64 0] (n * 1)).toList) (b1 : Below (w.heap.size + 1) (w.alloc (.cells #[.slice A n c] 33)) w2) (e1 : gs = w.heap.size + 1)
    (h2 : w4.ownsRow w.heap.size 3 1 (.slice (some ⟨gp, 0, none⟩) n n) n (madeCells #[.int .i64 0] (n * 1)).toList) (b2 : Below (w2.heap.size + 1) (w2.alloc (.cells #[.slice (some ⟨gs, 0, none⟩) n n] 23)) w4) (e2 : gp = w2.heap.size + 1) :
    OrdSt w A n c l w.heap.size gs w2.heap.size gp 0 (fun _ => .float .f64 0) (fun _ => .int .i64 0) w4 := by
  have p0 : Below w.heap.size w (w.alloc (.cells #[.slice A n c] 33)) := (Below.refl _ _).alloc (Nat.le_refl _) _
  have p1 : Below w.heap.size w w2 := p0.trans (b1.mono (by omega))
  have p2 : Below w2.heap.size w2 (w2.alloc (.cells #[.slice (some ⟨gs, 0, none⟩) n n] 23)) := (Below.refl _ _).alloc (Nat.le_refl _) _
  have p3 : Below w2.heap.size w2 w4 := p2.trans (b2.mono (by omega))
  have p4 : Below w.heap.size w w4 := p1.trans (p3.mono p1.size)
  have hg2 := (MF.mk' h1 p1).lt
  have hg4 := (MF.mk' h2 p4).lt
  have z1 : (w.alloc (.cells #[.slice A n c] 33)).heap[w.heap.size]? = some (.cells #[.slice A n c] 33) := heap_alloc_new w _
  have z2 : (w2.alloc (.cells #[.slice (some ⟨gs, 0, none⟩) n n] 23)).heap[w2.heap.size]? = some (.cells #[.slice (some ⟨gs, 0, none⟩) n n] 23) := heap_alloc_new w2 _
  refine ⟨(MF.mk' h1 p1).next p3, MF.mk' h2 p4, ?_, ?_, by omega, fun i hi => absurd hi (by omega), fun i hi => absurd hi (by omega)⟩
  · rw [p3.block _ (by omega), b1.block _ (by omega)]; exact z1
  · rw [b2.block _ (by omega)]; exact z2
end

end Go.Proofs.Ytaehhafdodoljaa
