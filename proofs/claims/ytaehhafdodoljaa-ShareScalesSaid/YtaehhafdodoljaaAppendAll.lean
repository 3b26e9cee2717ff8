/- Words for memory: append(append([]T{}, l...), x): a literal that is empty, to which all of a slice is appended. General: nothing of the program stands here. -/
import Derived.Test.YtaehhafdodoljaaRowQ
import Derived.Laws.AppendOwnNone
namespace Go.Proofs.Ytaehhafdodoljaa
open Go.RowKit

/-- a guarded operation whose guard is met: as one without a guard -/
theorem wpList_wanted {P : Program} {ops : Array Oper} {rest : List Oper} {o : Oper} {a : Act} {w : World} {Q : Exit → Act → World → Prop} (h : Region.wanted o (yielded ops a.tmps) = true)
    (hw : wpList P ops Q (⟨o.dst, o.op, o.type, o.pos, o.after, none⟩ :: rest) a w) : wpList P ops Q (o :: rest) a w := by
  unfold wpList at hw ⊢
  rw [if_pos h]
  rw [if_pos (show Region.wanted _ _ = true from rfl)] at hw
  exact hw
section
variable {α : Type} {E : Elem α} {C : Nat} {t : TypeId} {w : World} {A : Option Addr} {m c : Nat} {xs : List α}
/-- the empty literal's row -/
theorem own_lit0 (w : World) (t : TypeId) (C : Nat) : (w.alloc (.cells #[] t)).ownsRow w.heap.size t C (.slice (some ⟨w.heap.size, 0, none⟩) 0 0) 0 [] :=
  World.ownsRow_made w #[] 0 (Nat.le_refl _) (Nat.zero_le _) (by simp)
theorem wpList_append_all {P : Program} {ops : Array Oper} {rest : List Oper} {o : Oper} {a : Act} {Q : Exit → Act → World → Prop} (hgd : o.guard = none) (s x : Operand) (ty : TypeId)
    (ho : o.op = .call { callee := .builtin .append, args := #[s, x], argTypes := #[ty, ty] })
    (hE : Steady E) (hone : ∀ (w' : World) (ok : Nat → Prop) (y : α) (vs : List Value), E w' ok y vs → ∀ u ∈ vs, u.oneCell' = true) (i : TypeInfo) (z : Value) (bytes : Nat) (ht : P.underlying ty = some (.slice t)) (hi : P.info? t = some i) (hz : i.zero = some z)
    (hsize : i.size = C) (hby : i.bytes = bytes) (hzs : z.cells.size = C) (hsz : 0 < C)
    (hs : a.eval s = .slice (some ⟨w.heap.size, 0, none⟩) 0 0) (hx : a.eval x = .slice A m c) (hr : RN E C w (Lt w.heap.size) A m xs) (hnil : A = none → c = 0)
    (h63 : m ≤ maxLen) (hbytes : m * bytes ≤ 140737488355328)
    (hk : ∀ v' w', ON E C t w v' xs w' → wpList P ops Q rest (a.put o.dst v') w') : wpList P ops Q (o :: rest) a (w.alloc (.cells #[] t)) := by
  have hown := own_lit0 w t C
  have hb0 : Below w.heap.size w (w.alloc (.cells #[] t)) := (Below.refl _ _).alloc (Nat.le_refl _) _
  cases A with
  | none =>
    have hc := hnil rfl
    subst hc
    have hm : m = 0 := by
      rcases Nat.eq_zero_or_pos m with h0 | h0
      · exact h0
      · obtain ⟨b, off, e', _⟩ := hr.2 h0; cases e'
    subst hm
    have hxs : xs = [] := List.eq_nil_of_length_eq_zero hr.1
    subst hxs
    exact wpList_append_own_none hgd s x ty ho w.heap.size t i C ht hi (.slice (some ⟨w.heap.size, 0, none⟩) 0 0) 0 [] hs hown hx (hk _ _ ⟨[], hown, hb0, fun j x h => by simp at h⟩)
  | some ad =>
    obtain ⟨fl, f1, f2, f3⟩ : ∃ fl : List Value, fl.length = m * C ∧ (∀ j u, fl[j]? = some u → w.cell? (ad.add j) = some u) ∧ ∀ j x, xs[j]? = some x → E w (Lt w.heap.size) x ((fl.drop (j * C)).take C) := by
      rcases Nat.eq_zero_or_pos m with h0 | h0
      · subst h0
        have hxs : xs = [] := List.eq_nil_of_length_eq_zero hr.1
        subst hxs
        exact ⟨[], by simp, fun j u h => by simp at h, fun j x h => by simp at h⟩
      · obtain ⟨b, off, e, _, hc⟩ := hr.2 h0
        injection e with e
        subst e
        obtain ⟨fl, g1, g2, g3⟩ := flat_of xs off hc
        refine ⟨fl, by rw [g1, hr.1], fun j u hj => ?_, g3⟩
        rw [add_none]
        exact g2 j u hj
    have hone' : ∀ u ∈ fl, u.oneCell' = true := by
      intro u hu
      obtain ⟨j, hj, rfl⟩ := List.getElem_of_mem hu
      have hjC : j / C < xs.length := by
        rw [hr.1]
        exact (Nat.div_lt_iff_lt_mul hsz).2 (by rw [← f1]; exact hj)
      refine hone _ _ _ _ (f3 (j / C) _ (List.getElem?_eq_getElem hjC)) _ ?_
      have hmod := Nat.mod_lt j hsz
      have hdm := Nat.div_add_mod j C
      rw [Nat.mul_comm] at hdm
      refine List.mem_of_getElem? (i := j % C) ?_
      rw [List.getElem?_take, if_pos hmod, List.getElem?_drop, hdm]
      exact List.getElem?_eq_getElem hj
    refine wpList_append_own _ hgd s x ty ho w.heap.size t i z C bytes ht hi hz hsize hby hzs hsz (.slice (some ⟨w.heap.size, 0, none⟩) 0 0) 0 [] hs hown ad m c fl hx f1 (fun j u hj => ?_) hone' (by omega) (by rw [Nat.zero_add]; exact hbytes) (by simp) fun v' w' h1 h2 _ => hk v' w' ?_
    · have h1 := f2 j u hj
      have hlt : (ad.add j).block < w.heap.size := World.block_lt_of_cell? _ _ h1
      exact (hb0.cell hlt).trans h1
    · have hb1 : Below w.heap.size w w' := hb0.grown h2 (by simp) (by intro k hk; have hk' : w.heap.size = k := (by simpa [Value.ownBlock] using hk); omega)
      refine ⟨fl, ?_, hb1, fun j x hx => hE.keep (f3 j x hx) (fun b hb => hb1.block b hb) (fun b hb => ⟨Nat.lt_of_lt_of_le hb hb1.size, fun e => ?_⟩)⟩
      · rw [Nat.zero_add, List.nil_append] at h1
        rw [hr.1]; exact h1
      · rw [Nat.zero_add, List.nil_append] at h1
        have hlt : b < w.heap.size := hb
        rcases h1.2 with ⟨hv, _⟩ | ⟨g, cap, cur, hv, hg, _⟩
        · rw [hv] at e; cases e
        · rw [hv] at e
          have : g = b := by simpa [Value.ownBlock] using e
          omega
end

end Go.Proofs.Ytaehhafdodoljaa
