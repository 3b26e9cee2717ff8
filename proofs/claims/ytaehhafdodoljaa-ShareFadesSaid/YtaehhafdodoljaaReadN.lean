/- Words for memory, for any kind of element: a slice whose elements take C cells each and read as things; an owned row of them that grows. General: nothing of the program stands here. -/
import Derived.Test.YtaehhafdodoljaaWords
import Derived.Deep.AppendLies
namespace Go.Proofs.Ytaehhafdodoljaa
open Go.RowKit

/-- how an element reads: in a world, with all that it reaches in blocks that are 'ok', of its cells -/
abbrev Elem (α : Type) := World → (Nat → Prop) → α → List Value → Prop
/-- an element reads the same where its blocks are the same -/
structure Steady {α : Type} (E : Elem α) : Prop where
  keep : ∀ {w w' : World} {ok ok' : Nat → Prop} {x : α} {vs : List Value}, E w ok x vs → (∀ b, ok b → w'.heap[b]? = w.heap[b]?) → (∀ b, ok b → ok' b) → E w' ok' x vs

/-- '.slice A n c' reads as xs: elements of C cells -/
def RN {α : Type} (E : Elem α) (C : Nat) (w : World) (ok : Nat → Prop) (A : Option Addr) (n : Nat) (xs : List α) : Prop :=
  xs.length = n ∧ (0 < n → ∃ b off, A = some ⟨b, off, none⟩ ∧ ok b ∧
    ∀ j x, xs[j]? = some x → ∃ vs, vs.length = C ∧ (∀ i v, vs[i]? = some v → w.cell? ⟨b, off + (j * C + i), none⟩ = some v) ∧ E w ok x vs)
/-- the blocks below B -/
def Lt (B : Nat) : Nat → Prop := (· < B)

section
variable {α : Type} {E : Elem α} {C : Nat} {w w' : World} {ok ok' : Nat → Prop} {A : Option Addr} {n : Nat} {xs : List α}
theorem RN.nil : RN E C w ok A 0 [] := ⟨rfl, fun h => absurd h (by omega)⟩
theorem RN.keep (hE : Steady E) (h : RN E C w ok A n xs) (hk : ∀ b, ok b → w'.heap[b]? = w.heap[b]?) (ho : ∀ b, ok b → ok' b) : RN E C w' ok' A n xs :=
  ⟨h.1, fun hn => by
    obtain ⟨b, off, e, hb, hc⟩ := h.2 hn
    refine ⟨b, off, e, ho b hb, fun j x hx => ?_⟩
    obtain ⟨vs, h1, h2, h3⟩ := hc j x hx
    exact ⟨vs, h1, fun i v hv => (World.cell?_of_block (hk b hb)).trans (h2 i v hv), hE.keep h3 hk ho⟩⟩
theorem RN.below {B : Nat} (hE : Steady E) (h : RN E C w (Lt B) A n xs) (hb : Below B w w') : RN E C w' (Lt B) A n xs := h.keep hE (fun b hb' => hb.block b hb') (fun _ h => h)
theorem RN.next (hE : Steady E) (h : RN E C w (Lt w.heap.size) A n xs) (hb : Below w.heap.size w w') : RN E C w' (Lt w'.heap.size) A n xs :=
  h.keep hE (fun b hb' => hb.block b hb') (fun b (h : b < w.heap.size) => Nat.lt_of_lt_of_le h hb.size)
theorem RN.drewN (h : RN E C w ok A n xs) (hE : Steady E) (k : Nat) : RN E C (w.drewN k) ok A n xs := h.keep hE (fun _ _ => rfl) (fun _ h => h)
/-- the k-th element -/
theorem RN.at (h : RN E C w ok A n xs) {k : Nat} {x : α} (hk : xs[k]? = some x) : ∃ b off vs, A = some ⟨b, off, none⟩ ∧ ok b ∧ vs.length = C ∧ (∀ i v, vs[i]? = some v → w.cell? ⟨b, off + (k * C + i), none⟩ = some v) ∧ E w ok x vs := by
  have hl := (List.getElem?_eq_some_iff.1 hk).1
  obtain ⟨b, off, e, hb, hc⟩ := h.2 (by have := h.1; omega)
  obtain ⟨vs, h1, h2, h3⟩ := hc k x hk
  exact ⟨b, off, vs, e, hb, h1, h2, h3⟩
end

/-- an element that is itself a slice: one cell -/
def ESl {α : Type} (E : Elem α) (C : Nat) : Elem (List α) := fun w ok xs vs => ∃ A m c, vs = [.slice A m c] ∧ RN E C w ok A m xs ∧ (A = none → c = 0) ∧ m ≤ c ∧ m ≤ maxLen
theorem ESl.steady {α : Type} {E : Elem α} (hE : Steady E) (C : Nat) : Steady (ESl E C) :=
  ⟨fun ⟨A, m, c, h1, h2, h3⟩ hk ho => ⟨A, m, c, h1, h2.keep hE hk ho, h3⟩⟩

/-- an owned row that reads as xs, in a world that keeps all that was there in w -/
def ON {α : Type} (E : Elem α) (C : Nat) (t : TypeId) (w : World) (v : Value) (xs : List α) (wr : World) : Prop :=
  ∃ fl : List Value, wr.ownsRow w.heap.size t C v xs.length fl ∧ Below w.heap.size w wr ∧
    ∀ j x, xs[j]? = some x → E wr (fun b => b < wr.heap.size ∧ v.ownBlock ≠ some b) x ((fl.drop (j * C)).take C)
section
variable {α : Type} {E : Elem α} {C : Nat} {t : TypeId} {w w1 w2 wr : World} {v v' : Value} {xs : List α}
theorem ON.nil (w : World) : ON E C t w (.slice none 0 0) [] w := ⟨[], by simpa using World.ownsRow_nil w w.heap.size t C, Below.refl _ _, fun j x h => by simp at h⟩
/-- what makes memory, and changes nothing that was there, leaves the row as it is -/
theorem ON.next (hE : Steady E) (h : ON E C t w v xs wr) (hb : Below wr.heap.size wr w1) : ON E C t w v xs w1 := by
  obtain ⟨fl, h1, h2, h3⟩ := h
  refine ⟨fl, ?_, h2.trans (hb.mono h2.size), fun j x hx => hE.keep (h3 j x hx) (fun b hb' => hb.block b hb'.1) (fun b hb' => ⟨Nat.lt_of_lt_of_le hb'.1 hb.size, hb'.2⟩)⟩
  refine ⟨h1.1, h1.2.imp id ?_⟩
  rintro ⟨g, cap, cur, e1, e2, e3, e4⟩
  exact ⟨g, cap, cur, e1, e2, (hb.block g (Array.getElem?_eq_some_iff.1 e3).1).trans e3, e4⟩
theorem ON.drew (hE : Steady E) (h : ON E C t w v xs wr) (q : Nat) : ON E C t w v xs (wr.drewN q) := h.next hE ⟨rfl, rfl, rfl, Nat.le_refl _, fun _ _ => rfl⟩
theorem ON.below (h : ON E C t w v xs wr) : Below w.heap.size w wr := let ⟨_, _, h2, _⟩ := h; h2
theorem ON.form (h : ON E C t w v xs wr) : ∃ A c, v = .slice A xs.length c ∧ (A = none → c = 0) ∧ xs.length ≤ c := by
  obtain ⟨fl, h1, _⟩ := h
  rcases h1.2 with ⟨hv, h0⟩ | ⟨g, cap, cur, hv, _, _, hc, _⟩
  · exact ⟨none, 0, by rw [hv, h0], fun _ => rfl, by omega⟩
  · exact ⟨_, cap, hv, (fun e => by cases e), hc⟩
/-- one element more: it was laid in a block of its own, and appended -/
theorem ON.snoc (hE : Steady E) (h : ON E C t w v xs wr) {x : α} {vs : List Value} {o : Obj} {fl : List Value} {g cap : Nat}
    (hfl : wr.ownsRow w.heap.size t C v xs.length fl) (hx : E wr (fun b => b < wr.heap.size ∧ v.ownBlock ≠ some b) x vs) (hvs : vs.length = C)
    (hold : ∀ j y, xs[j]? = some y → E wr (fun b => b < wr.heap.size ∧ v.ownBlock ≠ some b) y ((fl.drop (j * C)).take C))
    (hown' : w2.ownsRow w.heap.size t C (.slice (some ⟨g, 0, none⟩) (xs.length + 1) cap) (xs.length + 1) (fl ++ vs)) (hgrow : (wr.alloc o).grownBy w2 v.ownBlock)
    (hat : v.ownBlock = some g ∨ wr.heap.size ≤ g) : ON E C t w (.slice (some ⟨g, 0, none⟩) (xs.length + 1) cap) (xs ++ [x]) w2 := by
  have hB := h.below
  have hsz : wr.heap.size ≤ w2.heap.size := by have := hgrow.size; simp at this; omega
  have hkeep : ∀ b, (b < wr.heap.size ∧ v.ownBlock ≠ some b) → w2.heap[b]? = wr.heap[b]? := fun b hb =>
    (hgrow.block b (by simp; omega) (fun e => hb.2 e.symm)).trans (Below.heap_alloc wr o b hb.1)
  have hok : ∀ b, (b < wr.heap.size ∧ v.ownBlock ≠ some b) → (b < w2.heap.size ∧ (Value.slice (some ⟨g, 0, none⟩) (xs.length + 1) cap).ownBlock ≠ some b) := fun b hb =>
    ⟨by omega, fun e => by
      have e' : g = b := by simpa [Value.ownBlock] using e
      subst e'
      rcases hat with h' | h'
      · exact hb.2 h'
      · omega⟩
  refine ⟨fl ++ vs, by rw [List.length_append]; exact hown', (hB.alloc hB.size o).grown hgrow (by have := hB.size; simp; omega) (fun j hj => (hfl.lt j hj).1), fun j y hy => ?_⟩
  have hfll := hfl.1
  rcases Nat.lt_trichotomy j xs.length with hj | hj | hj
  · rw [List.getElem?_append_left hj] at hy
    have e := hE.keep (hold j y hy) hkeep hok
    have hlen : j * C + C ≤ fl.length := by rw [hfll, ← Nat.succ_mul]; exact Nat.mul_le_mul_right C hj
    rw [List.drop_append_of_le_length (by omega), List.take_append_of_le_length (by rw [List.length_drop]; omega)]
    exact e
  · subst hj
    rw [List.getElem?_append_right (Nat.le_refl _)] at hy
    simp at hy
    subst hy
    rw [← hfll, List.drop_append_of_le_length (Nat.le_refl _), List.drop_length, List.nil_append, List.take_of_length_le (by omega)]
    exact hE.keep hx hkeep hok
  · rw [List.getElem?_eq_none (by rw [List.length_append]; simp; omega)] at hy
    cases hy
/-- 'out = append(out, x)' of an owned row of elements: x has been laid into a block of its own -/
theorem wpList_append_ON {P : Program} {ops : Array Oper} {rest : List Oper} {o : Oper} {a : Act} {Q : Exit → Act → World → Prop} (hgd : o.guard = none) (s x : Operand) (ty : TypeId)
    (ho : o.op = .call { callee := .builtin .append, args := #[s, x], argTypes := #[ty, ty] })
    (hE : Steady E) (h : ON E C t w v xs wr) (i : TypeInfo) (z : Value) (bytes : Nat) (ht : P.underlying ty = some (.slice t)) (hi : P.info? t = some i) (hz : i.zero = some z)
    (hsize : i.size = C) (hby : i.bytes = bytes) (hzs : z.cells.size = C) (hsz : 0 < C)
    (hs : a.eval s = v) (x0 : α) (cs : Array Value) (hx : a.eval x = .slice (some ⟨wr.heap.size, 0, none⟩) 1 1) (hl : cs.toList.length = C) (h1 : ∀ u ∈ cs.toList, u.oneCell' = true)
    (he : E wr (fun b => b < wr.heap.size ∧ v.ownBlock ≠ some b) x0 cs.toList)
    (h63 : xs.length + 1 ≤ maxLen) (hbytes : (xs.length + 1) * bytes ≤ 140737488355328)
    (hk : ∀ v' w', ON E C t w v' (xs ++ [x0]) w' → wpList P ops Q rest (a.put o.dst v') w') : wpList P ops Q (o :: rest) a (wr.alloc (.cells cs t)) := by
  have hB := h.below
  obtain ⟨fl, h2, _, h4⟩ := id h
  refine wpList_append_lies (wr.alloc (.cells cs t)) hgd s x ty ho w.heap.size t i z C bytes ht hi hz hsize hby hzs hsz v xs.length fl hs (h2.alloc _) ⟨wr.heap.size, 0, none⟩ 1 1 cs.toList hx (by rw [hl]; omega)
    (World.news_of_block (cs := cs) (t := t) (fr := (0, 0)) (heap_alloc_new wr _)) h1 (by omega) h63 hbytes (by have := hB.size; simp; omega) _ rfl ?_
  intro g cap w2 hown' hgrow hat hlt
  exact hk _ _ (h.snoc hE h2 he hl h4 hown' hgrow (hat.imp id (fun e => by rw [e]; simp)))
/-- an owned row reads as a slice -/
theorem ON.reads (hE : Steady E) (hC : 0 < C) (h : ON E C t w v xs wr) {A : Option Addr} {n c : Nat} (hv : v = .slice A n c) : RN E C wr (Lt wr.heap.size) A n xs := by
  obtain ⟨fl, h1, h2, h3⟩ := h
  rcases h1.2 with ⟨hv', h0⟩ | ⟨g, cap, cur, hv', _, hh, hc, _⟩
  · rw [hv] at hv'
    injection hv' with e1 e2 e3
    subst e1 e2
    have : xs = [] := List.eq_nil_of_length_eq_zero h0
    subst this
    exact RN.nil
  · have hg : v.ownBlock = some g := by rw [hv']; rfl
    have hcells := h1.cells hg
    rw [hv] at hv'
    injection hv' with e1 e2 e3
    subst e1 e2
    refine ⟨rfl, fun hn => ⟨g, 0, rfl, (Array.getElem?_eq_some_iff.1 hh).1, fun j x hx => ?_⟩⟩
    have hj := (List.getElem?_eq_some_iff.1 hx).1
    have hlen : j * C + C ≤ fl.length := by rw [h1.1, ← Nat.succ_mul]; exact Nat.mul_le_mul_right C hj
    refine ⟨(fl.drop (j * C)).take C, by rw [List.length_take, List.length_drop]; omega, fun i u hu => ?_, hE.keep (h3 j x hx) (fun _ _ => rfl) (fun b hb => hb.1)⟩
    have hi : i < C := by
      have := (List.getElem?_eq_some_iff.1 hu).1
      rw [List.length_take, List.length_drop] at this
      omega
    rw [List.getElem?_take_of_lt hi, List.getElem?_drop] at hu
    have := hcells (j * C + i) u hu
    have ha : (⟨g, 0, none⟩ : Addr).add (j * C + i) = ⟨g, 0 + (j * C + i), none⟩ := by unfold Addr.add; split <;> simp_all
    rw [ha] at this
    exact this
end

end Go.Proofs.Ytaehhafdodoljaa
