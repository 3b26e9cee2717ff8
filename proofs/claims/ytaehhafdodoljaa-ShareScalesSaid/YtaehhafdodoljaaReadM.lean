/- Words for memory: several elements appended at once to an owned row. General: nothing of the program stands here. -/
import Derived.Test.YtaehhafdodoljaaReadN
namespace Go.Proofs.Ytaehhafdodoljaa
open Go.RowKit

section
variable {α : Type} {E : Elem α} {C : Nat} {t : TypeId} {w w2 wr : World} {v : Value} {xs : List α}
theorem ON.app (hE : Steady E) (h : ON E C t w v xs wr) {ys : List α} {vs : List Value} {o : Obj} {fl : List Value} {g cap : Nat}
    (hfl : wr.ownsRow w.heap.size t C v xs.length fl) (hx : ∀ j y, ys[j]? = some y → E wr (fun b => b < wr.heap.size ∧ v.ownBlock ≠ some b) y ((vs.drop (j * C)).take C)) (_ : vs.length = ys.length * C)
    (hold : ∀ j y, xs[j]? = some y → E wr (fun b => b < wr.heap.size ∧ v.ownBlock ≠ some b) y ((fl.drop (j * C)).take C))
    (hown' : w2.ownsRow w.heap.size t C (.slice (some ⟨g, 0, none⟩) (xs.length + ys.length) cap) (xs.length + ys.length) (fl ++ vs)) (hgrow : (wr.alloc o).grownBy w2 v.ownBlock)
    (hat : v.ownBlock = some g ∨ wr.heap.size ≤ g) : ON E C t w (.slice (some ⟨g, 0, none⟩) (xs.length + ys.length) cap) (xs ++ ys) w2 := by
  have hB := h.below
  have hsz : wr.heap.size ≤ w2.heap.size := by have := hgrow.size; simp at this; omega
  have hkeep : ∀ b, (b < wr.heap.size ∧ v.ownBlock ≠ some b) → w2.heap[b]? = wr.heap[b]? := fun b hb =>
    (hgrow.block b (by simp; omega) (fun e => hb.2 e.symm)).trans (Below.heap_alloc wr o b hb.1)
  have hok : ∀ b, (b < wr.heap.size ∧ v.ownBlock ≠ some b) → (b < w2.heap.size ∧ (Value.slice (some ⟨g, 0, none⟩) (xs.length + ys.length) cap).ownBlock ≠ some b) := fun b hb =>
    ⟨by omega, fun e => by
      have e' : g = b := by simpa [Value.ownBlock] using e
      subst e'
      rcases hat with h' | h'
      · exact hb.2 h'
      · omega⟩
  refine ⟨fl ++ vs, by rw [List.length_append]; exact hown', (hB.alloc hB.size o).grown hgrow (by have := hB.size; simp; omega) (fun j hj => (hfl.lt j hj).1), fun j y hy => ?_⟩
  have hfll := hfl.1
  rcases Nat.lt_or_ge j xs.length with hj | hj
  · rw [List.getElem?_append_left hj] at hy
    have e := hE.keep (hold j y hy) hkeep hok
    have hlen : j * C + C ≤ fl.length := by rw [hfll, ← Nat.succ_mul]; exact Nat.mul_le_mul_right C hj
    rw [List.drop_append_of_le_length (by omega), List.take_append_of_le_length (by rw [List.length_drop]; omega)]
    exact e
  · rw [List.getElem?_append_right hj] at hy
    have e := hE.keep (hx (j - xs.length) y hy) hkeep hok
    have hd : (fl ++ vs).drop (j * C) = vs.drop ((j - xs.length) * C) := by
      rw [List.drop_append, List.drop_eq_nil_of_le (by rw [hfll]; exact Nat.mul_le_mul_right C hj), List.nil_append, hfll, ← Nat.sub_mul]
    rw [hd]
    exact e
/-- 'out = append(out, x, y ..)' of an owned row of elements: they have been laid into a block of their own -/
theorem wpList_append_ONs {P : Program} {ops : Array Oper} {rest : List Oper} {o : Oper} {a : Act} {Q : Exit → Act → World → Prop} (hgd : o.guard = none) (s x : Operand) (ty : TypeId)
    (ho : o.op = .call { callee := .builtin .append, args := #[s, x], argTypes := #[ty, ty] })
    (hE : Steady E) (h : ON E C t w v xs wr) (i : TypeInfo) (z : Value) (bytes : Nat) (ht : P.underlying ty = some (.slice t)) (hi : P.info? t = some i) (hz : i.zero = some z)
    (hsize : i.size = C) (hby : i.bytes = bytes) (hzs : z.cells.size = C) (hsz : 0 < C)
    (hs : a.eval s = v) (ys : List α) (m : Nat) (hm : ys.length = m) (hm0 : 0 < m) (cs : Array Value) (hx : a.eval x = .slice (some ⟨wr.heap.size, 0, none⟩) m m) (hl : cs.toList.length = m * C) (h1 : ∀ u ∈ cs.toList, u.oneCell' = true)
    (he : ∀ j y, ys[j]? = some y → E wr (fun b => b < wr.heap.size ∧ v.ownBlock ≠ some b) y ((cs.toList.drop (j * C)).take C))
    (h63 : xs.length + m ≤ maxLen) (hbytes : (xs.length + m) * bytes ≤ 140737488355328)
    (hk : ∀ v' w', ON E C t w v' (xs ++ ys) w' → wpList P ops Q rest (a.put o.dst v') w') : wpList P ops Q (o :: rest) a (wr.alloc (.cells cs t)) := by
  subst hm
  have hB := h.below
  obtain ⟨fl, h2, _, h4⟩ := id h
  refine wpList_append_lies (wr.alloc (.cells cs t)) hgd s x ty ho w.heap.size t i z C bytes ht hi hz hsize hby hzs hsz v xs.length fl hs (h2.alloc _) ⟨wr.heap.size, 0, none⟩ ys.length ys.length cs.toList hx hl
    (World.news_of_block (cs := cs) (t := t) (fr := (0, 0)) (heap_alloc_new wr _)) h1 hm0 h63 hbytes (by have := hB.size; simp; omega) _ rfl ?_
  intro g cap w2 hown' hgrow hat hlt
  exact hk _ _ (h.app hE h2 he hl h4 hown' hgrow (hat.imp id (fun e => by rw [e]; simp)))
end

end Go.Proofs.Ytaehhafdodoljaa
