/- Small words that all layers share. What the statements' frames of layers without listed variables share: a law's frame, from its walk to what the row says. Words for memory, for any kind of element: a slice whose elements take C cells each and read as things; an owned row of them that grows. General: nothing of the program stands here. An argument that is a slice, opened: of any elements of which it is known how one reads. General. Words for memory: a slice of int that reads as a list; no condition. Words for memory: a slice of int as a call's result; numbers that are asked. Arguments that are numbers, or lists of numbers, opened. Plain facts on sets of numbers from 0 to 255 kept as rising lists; no condition. What a graph of things is, and what is over what, in plain words: chains of parents. No program's text is walked here. Words for memory: a slice of things that reads as a graph's list. An argument that is a list of things, opened. The reference's Plus (bailiwickref02): a time and a length further on, at most Never; of any two numbers. What a job asks for, in plain words. No program's text is walked here. Words for memory: a block that holds a spec. An argument that is a spec by value, opened. How layer 9's arguments are opened: things, numbers, specs. -/
import Derived.Test.YtchogijdkagiiaaGreatDoorProg
import Derived.WalkKit
import Derived.OwnWalk
import Derived.Lib.Hide
import Derived.Deep.Draws
import Derived.Below
import Derived.KernelRfl
import Derived.Test.YtchogijdkagiiaaGreatDoorRows
import Derived.ProofKit
import Derived.OpenShut
import Derived.HandedShaped
import Derived.Deep.Slices
import Derived.Deep.Fields
import Derived.ChangeSame
import Derived.Deep.AppendLies
import Derived.Laws.AppendOwnNone
import Derived.LoopTactic
import Derived.Laws.Rows
namespace Go.Proofs.YtchogijdkagiiaaGreatDoor
open Go.RowKit

/-- in an int's bounds -/
def I64 (x : Int) : Prop := -9223372036854775808 ≤ x ∧ x ≤ 9223372036854775807
theorem ret_bool {a b : Bool} (h : b = a) : Ending.returned (.bool a) = .returned (.bool b) := by rw [h]
theorem ret_int {k : IntKind} {a b : Int} (h : a = b) : Ending.returned (.int k a) = .returned (.int k b) := by rw [h]
theorem ret_num {k : IntKind} {a b : Int} (h : a = b) : Ending.returned (.int k a) = .returned (.int k b) := by rw [h]
theorem add_none (b o n : Nat) : (⟨b, o, none⟩ : Addr).add n = ⟨b, o + n, none⟩ := by unfold Addr.add; split <;> simp_all
theorem own_form {w : World} {base n : Nat} {e : TypeId} {C : Nat} {v : Value} {xs : List Value} (h : w.ownsRow base e C v n xs) : ∃ A c, v = .slice A n c := by
  rcases h.2 with ⟨hv, h0⟩ | ⟨g, cap, cur, hv, _⟩
  · subst h0; exact ⟨none, 0, hv⟩
  · exact ⟨_, _, hv⟩
theorem own_cap {w : World} {B n c C : Nat} {e : TypeId} {A : Option Addr} {xs : List Value} (h : w.ownsRow B e C (.slice A n c) n xs) : n ≤ c := by
  rcases h.2 with ⟨hv, h0⟩ | ⟨g, cap, cur, hv, _, _, hcap, _⟩
  · omega
  · injection hv with _ _ h3
    omega
theorem own_base {w : World} {B B' n C : Nat} {e : TypeId} {v : Value} {xs : List Value} (h : w.ownsRow B e C v n xs) (hB : B' ≤ B) : w.ownsRow B' e C v n xs := by
  refine ⟨h.1, h.2.imp id ?_⟩
  rintro ⟨g, cap, cur, h1, h2, h3⟩
  exact ⟨g, cap, cur, h1, Nat.le_trans hB h2, h3⟩
theorem info_parts {t : TypeId} {z : Value} {s b : Nat} (h : (Tryz.prog.info? t).map (fun i => (i.zero, i.size, i.bytes)) = some (some z, s, b)) : ∃ i, Tryz.prog.info? t = some i ∧ i.zero = some z ∧ i.size = s ∧ i.bytes = b := by
  cases hi : Tryz.prog.info? t with
  | none => rw [hi] at h; cases h
  | some i =>
    rw [hi] at h
    simp only [Option.map_some, Option.some.injEq, Prod.mk.injEq] at h
    exact ⟨i, rfl, h.1, h.2.1, h.2.2⟩

theorem bel_drew (w : World) (q : Nat) : Below w.heap.size w (w.drewN q) := ⟨rfl, rfl, rfl, Nat.le_refl _, fun _ _ => rfl⟩
theorem bel_und {w w' : World} (h : Below w.drew.heap.size w.drew w') : Below w.heap.size w w' := ⟨h.os, h.tape, h.output, h.size, h.block⟩
theorem bel_more {B : Nat} {a w : World} (h : Below B a w) (q : Nat) : Below B a (w.drewN q) := ⟨h.os, h.tape, h.output, h.size, h.block⟩

theorem int_info : (Tryz.prog.info? 3).map (fun i => (i.zero, i.size, i.bytes)) = some (some (.int .i64 0), 1, 8) := by kernel_rfl

theorem own_nil {w : World} {B n c C : Nat} {e : TypeId} {A : Option Addr} {xs : List Value} (h : w.ownsRow B e C (.slice A n c) n xs) : A = none → c = 0 := by
  intro hA
  subst hA
  rcases h.2 with ⟨hv, _⟩ | ⟨g, cap, cur, hv, _⟩
  · injection hv
  · injection hv with hv
    cases hv

end Go.Proofs.YtchogijdkagiiaaGreatDoor

namespace Go.Proofs.YtchogijdkagiiaaGreatDoor
open Go.ChangeShapes Go.WideShapes Go.ChangeAt Go.RowKit Go.Deep

theorem own_knob : ownKnob Tryz.prog.godebug = none := by kernel_rfl
theorem laid_out : laidOutB Tryz.prog = true := by kernel_rfl

section
variable {H : Type} {enc : TypeId × Value → H} {P : Program}
/-- the arguments read as they did, in a world that keeps all that was there -/
theorem below_trodAll {W W' : World} (hlo : laidOutB P = true) (hb : Below W.heap.size W W') : ∀ {ts : List TypeId} {vs : List Value} {ds : List (DataW H)} {ps : List MemPlace},
    (∀ t ∈ ts, P.readableRec t = true ∧ t < P.types.size) → DataW.TrodAll enc P W 0 (fun _ => true) true ts vs ds ps → (∀ x ∈ ps, x.block < W.heap.size) → DataW.TrodAll enc P W' 0 (fun b => decide (b < W.heap.size)) true ts vs ds ps
  | [], [], [], _, _, h, _ => h
  | t :: ts, v :: vs, d :: ds, ps, ht, h, hlt => by
    obtain ⟨p, q, h1, h2, rfl⟩ := h
    exact ⟨p, q, Below.trod hlo (ht t (by simp)).1 (ht t (by simp)).2 h1 hb (fun x hx => hlt x (by simp [hx])), below_trodAll hlo hb (fun u hu => ht u (by simp [hu])) h2 (fun x hx => hlt x (by simp [hx])), rfl⟩
  | [], [], _ :: _, _, _, h, _ => h.elim
  | [], _ :: _, _, _, _, h, _ => h.elim
  | _ :: _, [], _, _, _, h, _ => h.elim
  | _ :: _, _ :: _, [], _, _, h, _ => h.elim
/-- 'it returns true, and the arguments read as they did', from what the walk leaves -/
theorem post_true {f : Func} {s : ChangeSpec} {apart : Bool} {W W' : World} {args : Array Value} {ds gs : List (DataW H)} {before : List MemPlace} {tb : TypeId}
    (hlo : laidOutB P = true) (htb : P.underlying tb = some .bool) (hrt : f.resultTypes = #[tb]) (hv : s.vars = [])
    (hrows : ∀ t ∈ f.params.toList, P.readableRec t = true ∧ t < P.types.size)
    (hs : s.fn H (ds ++ gs) = { results := [.lit (.bool true)], args := ds })
    (hW : DataW.Whole enc P f.params.toList s.vars apart W args.toList ds gs before) (hb : Below W.heap.size W W') :
    s.post enc P f apart true false false W args (.bool true) W' := by
  have hW' := hW
  obtain ⟨p, q, hA, hV, rfl, hz, hn⟩ := hW
  rw [hv] at hV
  obtain ⟨rfl, rfl⟩ := trodVars_none hV
  refine ⟨ds, [], _, [], p, [], hW', ?_, ?_, ?_, hb.frame _, fun h => by cases h⟩
  · rw [hs, hrt]
    exact trodAll_mk1 (shut_bool htb true)
  · rw [hs]
    exact below_trodAll hlo hb hrows hA fun x hx => by simpa using hW'.lt x (by simpa using hx)
  · rw [hs, hv]
    rfl
end

end Go.Proofs.YtchogijdkagiiaaGreatDoor

namespace Go.Proofs.YtchogijdkagiiaaGreatDoor
open Go.RowKit

/-- how an element reads: in a world, with all that it reaches in blocks that are 'ok', of its cells -/
abbrev Elem (α : Type) := World → (Nat → Prop) → α → List Value → Prop
/-- an element reads the same where its blocks are the same -/
structure Steady {α : Type} (E : Elem α) : Prop where
  keep : ∀ {w w' : World} {ok ok' : Nat → Prop} {x : α} {vs : List Value}, E w ok x vs → (∀ b, ok b → w'.heap[b]? = w.heap[b]?) → (∀ b, ok b → ok' b) → E w' ok' x vs

/-- '.slice A n c' reads as xs: elements of C cells -/
def RN {α : Type} (E : Elem α) (C : Nat) (w : World) (ok : Nat → Prop) (A : Option Addr) (n : Nat) (xs : List α) : Prop :=
  xs.length = n ∧ (0 < n → ∃ b off, A = some ⟨b, off, none⟩ ∧ ok b ∧
    ∀ j x, xs[j]? = some x → ∃ vs, vs.length = C ∧ (∀ i v, vs[i]? = some v → w.cell? ⟨b, off + (j * C + i), none⟩ = some v) ∧ E w ok x vs)
/-- the blocks below B -/
def Lt (B : Nat) : Nat → Prop := (· < B)

section
variable {α : Type} {E : Elem α} {C : Nat} {w w' : World} {ok ok' : Nat → Prop} {A : Option Addr} {n : Nat} {xs : List α}
theorem RN.nil : RN E C w ok A 0 [] := ⟨rfl, fun h => absurd h (by omega)⟩
theorem RN.keep (hE : Steady E) (h : RN E C w ok A n xs) (hk : ∀ b, ok b → w'.heap[b]? = w.heap[b]?) (ho : ∀ b, ok b → ok' b) : RN E C w' ok' A n xs :=
  ⟨h.1, fun hn => by
    obtain ⟨b, off, e, hb, hc⟩ := h.2 hn
    refine ⟨b, off, e, ho b hb, fun j x hx => ?_⟩
    obtain ⟨vs, h1, h2, h3⟩ := hc j x hx
    exact ⟨vs, h1, fun i v hv => (World.cell?_of_block (hk b hb)).trans (h2 i v hv), hE.keep h3 hk ho⟩⟩
theorem RN.below {B : Nat} (hE : Steady E) (h : RN E C w (Lt B) A n xs) (hb : Below B w w') : RN E C w' (Lt B) A n xs := h.keep hE (fun b hb' => hb.block b hb') (fun _ h => h)
theorem RN.next (hE : Steady E) (h : RN E C w (Lt w.heap.size) A n xs) (hb : Below w.heap.size w w') : RN E C w' (Lt w'.heap.size) A n xs :=
  h.keep hE (fun b hb' => hb.block b hb') (fun b (h : b < w.heap.size) => Nat.lt_of_lt_of_le h hb.size)
/-- the k-th element -/
theorem RN.at (h : RN E C w ok A n xs) {k : Nat} {x : α} (hk : xs[k]? = some x) : ∃ b off vs, A = some ⟨b, off, none⟩ ∧ ok b ∧ vs.length = C ∧ (∀ i v, vs[i]? = some v → w.cell? ⟨b, off + (k * C + i), none⟩ = some v) ∧ E w ok x vs := by
  have hl := (List.getElem?_eq_some_iff.1 hk).1
  obtain ⟨b, off, e, hb, hc⟩ := h.2 (by have := h.1; omega)
  obtain ⟨vs, h1, h2, h3⟩ := hc k x hk
  exact ⟨b, off, vs, e, hb, h1, h2, h3⟩
end

/-- an owned row that reads as xs, in a world that keeps all that was there in w -/
def ON {α : Type} (E : Elem α) (C : Nat) (t : TypeId) (w : World) (v : Value) (xs : List α) (wr : World) : Prop :=
  ∃ fl : List Value, wr.ownsRow w.heap.size t C v xs.length fl ∧ Below w.heap.size w wr ∧
    ∀ j x, xs[j]? = some x → E wr (fun b => b < wr.heap.size ∧ v.ownBlock ≠ some b) x ((fl.drop (j * C)).take C)
section
variable {α : Type} {E : Elem α} {C : Nat} {t : TypeId} {w w1 w2 wr : World} {v v' : Value} {xs : List α}
theorem ON.nil (w : World) : ON E C t w (.slice none 0 0) [] w := ⟨[], by simpa using World.ownsRow_nil w w.heap.size t C, Below.refl _ _, fun j x h => by simp at h⟩
/-- what makes memory, and changes nothing that was there, leaves the row as it is -/
theorem ON.next (hE : Steady E) (h : ON E C t w v xs wr) (hb : Below wr.heap.size wr w1) : ON E C t w v xs w1 := by
  obtain ⟨fl, h1, h2, h3⟩ := h
  refine ⟨fl, ?_, h2.trans (hb.mono h2.size), fun j x hx => hE.keep (h3 j x hx) (fun b hb' => hb.block b hb'.1) (fun b hb' => ⟨Nat.lt_of_lt_of_le hb'.1 hb.size, hb'.2⟩)⟩
  refine ⟨h1.1, h1.2.imp id ?_⟩
  rintro ⟨g, cap, cur, e1, e2, e3, e4⟩
  exact ⟨g, cap, cur, e1, e2, (hb.block g (Array.getElem?_eq_some_iff.1 e3).1).trans e3, e4⟩
theorem ON.below (h : ON E C t w v xs wr) : Below w.heap.size w wr := let ⟨_, _, h2, _⟩ := h; h2
theorem ON.form (h : ON E C t w v xs wr) : ∃ A c, v = .slice A xs.length c ∧ (A = none → c = 0) ∧ xs.length ≤ c := by
  obtain ⟨fl, h1, _⟩ := h
  rcases h1.2 with ⟨hv, h0⟩ | ⟨g, cap, cur, hv, _, _, hc, _⟩
  · exact ⟨none, 0, by rw [hv, h0], fun _ => rfl, by omega⟩
  · exact ⟨_, cap, hv, (fun e => by cases e), hc⟩
/-- one element more: it was laid in a block of its own, and appended -/
theorem ON.snoc (hE : Steady E) (h : ON E C t w v xs wr) {x : α} {vs : List Value} {o : Obj} {fl : List Value} {g cap : Nat}
    (hfl : wr.ownsRow w.heap.size t C v xs.length fl) (hx : E wr (fun b => b < wr.heap.size ∧ v.ownBlock ≠ some b) x vs) (hvs : vs.length = C)
    (hold : ∀ j y, xs[j]? = some y → E wr (fun b => b < wr.heap.size ∧ v.ownBlock ≠ some b) y ((fl.drop (j * C)).take C))
    (hown' : w2.ownsRow w.heap.size t C (.slice (some ⟨g, 0, none⟩) (xs.length + 1) cap) (xs.length + 1) (fl ++ vs)) (hgrow : (wr.alloc o).grownBy w2 v.ownBlock)
    (hat : v.ownBlock = some g ∨ wr.heap.size ≤ g) : ON E C t w (.slice (some ⟨g, 0, none⟩) (xs.length + 1) cap) (xs ++ [x]) w2 := by
  have hB := h.below
  have hsz : wr.heap.size ≤ w2.heap.size := by have := hgrow.size; simp at this; omega
  have hkeep : ∀ b, (b < wr.heap.size ∧ v.ownBlock ≠ some b) → w2.heap[b]? = wr.heap[b]? := fun b hb =>
    (hgrow.block b (by simp; omega) (fun e => hb.2 e.symm)).trans (Below.heap_alloc wr o b hb.1)
  have hok : ∀ b, (b < wr.heap.size ∧ v.ownBlock ≠ some b) → (b < w2.heap.size ∧ (Value.slice (some ⟨g, 0, none⟩) (xs.length + 1) cap).ownBlock ≠ some b) := fun b hb =>
    ⟨by omega, fun e => by
      have e' : g = b := by simpa [Value.ownBlock] using e
      subst e'
      rcases hat with h' | h'
      · exact hb.2 h'
      · omega⟩
  refine ⟨fl ++ vs, by rw [List.length_append]; exact hown', (hB.alloc hB.size o).grown hgrow (by have := hB.size; simp; omega) (fun j hj => (hfl.lt j hj).1), fun j y hy => ?_⟩
  have hfll := hfl.1
  rcases Nat.lt_trichotomy j xs.length with hj | hj | hj
  · rw [List.getElem?_append_left hj] at hy
    have e := hE.keep (hold j y hy) hkeep hok
    have hlen : j * C + C ≤ fl.length := by rw [hfll, ← Nat.succ_mul]; exact Nat.mul_le_mul_right C hj
    rw [List.drop_append_of_le_length (by omega), List.take_append_of_le_length (by rw [List.length_drop]; omega)]
    exact e
  · subst hj
    rw [List.getElem?_append_right (Nat.le_refl _)] at hy
    simp at hy
    subst hy
    rw [← hfll, List.drop_append_of_le_length (Nat.le_refl _), List.drop_length, List.nil_append, List.take_of_length_le (by omega)]
    exact hE.keep hx hkeep hok
  · rw [List.getElem?_eq_none (by rw [List.length_append]; simp; omega)] at hy
    cases hy
/-- 'out = append(out, x)' of an owned row of elements: x has been laid into a block of its own -/
theorem wpList_append_ON {P : Program} {ops : Array Oper} {rest : List Oper} {o : Oper} {a : Act} {Q : Exit → Act → World → Prop} (hgd : o.guard = none) (s x : Operand) (ty : TypeId)
    (ho : o.op = .call { callee := .builtin .append, args := #[s, x], argTypes := #[ty, ty] })
    (hE : Steady E) (h : ON E C t w v xs wr) (i : TypeInfo) (z : Value) (bytes : Nat) (ht : P.underlying ty = some (.slice t)) (hi : P.info? t = some i) (hz : i.zero = some z)
    (hsize : i.size = C) (hby : i.bytes = bytes) (hzs : z.cells.size = C) (hsz : 0 < C)
    (hs : a.eval s = v) (x0 : α) (cs : Array Value) (hx : a.eval x = .slice (some ⟨wr.heap.size, 0, none⟩) 1 1) (hl : cs.toList.length = C) (h1 : ∀ u ∈ cs.toList, u.oneCell' = true)
    (he : E wr (fun b => b < wr.heap.size ∧ v.ownBlock ≠ some b) x0 cs.toList)
    (h63 : xs.length + 1 ≤ maxLen) (hbytes : (xs.length + 1) * bytes ≤ 140737488355328)
    (hk : ∀ v' w', ON E C t w v' (xs ++ [x0]) w' → wpList P ops Q rest (a.put o.dst v') w') : wpList P ops Q (o :: rest) a (wr.alloc (.cells cs t)) := by
  have hB := h.below
  obtain ⟨fl, h2, _, h4⟩ := id h
  refine wpList_append_lies (wr.alloc (.cells cs t)) hgd s x ty ho w.heap.size t i z C bytes ht hi hz hsize hby hzs hsz v xs.length fl hs (h2.alloc _) ⟨wr.heap.size, 0, none⟩ 1 1 cs.toList hx (by rw [hl]; omega)
    (World.news_of_block (cs := cs) (t := t) (fr := (0, 0)) (heap_alloc_new wr _)) h1 (by omega) h63 hbytes (by have := hB.size; simp; omega) _ rfl ?_
  intro g cap w2 hown' hgrow hat hlt
  exact hk _ _ (h.snoc hE h2 he hl h4 hown' hgrow (hat.imp id (fun e => by rw [e]; simp)))
/-- an owned row reads as a slice -/
theorem ON.reads (hE : Steady E) (hC : 0 < C) (h : ON E C t w v xs wr) {A : Option Addr} {n c : Nat} (hv : v = .slice A n c) : RN E C wr (Lt wr.heap.size) A n xs := by
  obtain ⟨fl, h1, h2, h3⟩ := h
  rcases h1.2 with ⟨hv', h0⟩ | ⟨g, cap, cur, hv', _, hh, hc, _⟩
  · rw [hv] at hv'
    injection hv' with e1 e2 e3
    subst e1 e2
    have : xs = [] := List.eq_nil_of_length_eq_zero h0
    subst this
    exact RN.nil
  · have hg : v.ownBlock = some g := by rw [hv']; rfl
    have hcells := h1.cells hg
    rw [hv] at hv'
    injection hv' with e1 e2 e3
    subst e1 e2
    refine ⟨rfl, fun hn => ⟨g, 0, rfl, (Array.getElem?_eq_some_iff.1 hh).1, fun j x hx => ?_⟩⟩
    have hj := (List.getElem?_eq_some_iff.1 hx).1
    have hlen : j * C + C ≤ fl.length := by rw [h1.1, ← Nat.succ_mul]; exact Nat.mul_le_mul_right C hj
    refine ⟨(fl.drop (j * C)).take C, by rw [List.length_take, List.length_drop]; omega, fun i u hu => ?_, hE.keep (h3 j x hx) (fun _ _ => rfl) (fun b hb => hb.1)⟩
    have hi : i < C := by
      have := (List.getElem?_eq_some_iff.1 hu).1
      rw [List.length_take, List.length_drop] at this
      omega
    rw [List.getElem?_take_of_lt hi, List.getElem?_drop] at hu
    have := hcells (j * C + i) u hu
    have ha : (⟨g, 0, none⟩ : Addr).add (j * C + i) = ⟨g, 0 + (j * C + i), none⟩ := by unfold Addr.add; split <;> simp_all
    rw [ha] at this
    exact this
end

end Go.Proofs.YtchogijdkagiiaaGreatDoor

namespace Go.Proofs.YtchogijdkagiiaaGreatDoor
open Go.ChangeShapes Go.WideShapes Go.ChangeAt Go.RowKit Go.Deep

theorem i64_wf {x : Int} (h : (Lit.int .i64 x).wf = true) : I64 x := by
  have h1 : IntKind.i64.min = -9223372036854775808 := rfl
  have h2 : IntKind.i64.max = 9223372036854775807 := rfl
  simp only [Lit.wf, Bool.and_eq_true, decide_eq_true_eq] at h
  unfold I64
  omega
theorem u8_wf {x : Int} (h : (Lit.int .u8 x).wf = true) : 0 ≤ x ∧ x ≤ 255 := by
  have h1 : IntKind.u8.min = 0 := rfl
  have h2 : IntKind.u8.max = 255 := rfl
  simp only [Lit.wf, Bool.and_eq_true, decide_eq_true_eq] at h
  omega
theorem list_of_each {α : Type} {Q : Nat → α → Prop} : ∀ (n : Nat), (∀ i, i < n → ∃ a, Q i a) → ∃ xs : List α, xs.length = n ∧ ∀ j x, xs[j]? = some x → Q j x
  | 0, _ => ⟨[], rfl, fun j x h => by simp at h⟩
  | n + 1, h => by
    obtain ⟨xs, h1, h2⟩ := list_of_each n (fun i hi => h i (by omega))
    obtain ⟨a, ha⟩ := h n (by omega)
    refine ⟨xs ++ [a], by simp [h1], fun j x hj => ?_⟩
    rcases Nat.lt_trichotomy j n with hlt | heq | hgt
    · rw [List.getElem?_append_left (by omega)] at hj
      exact h2 j x hj
    · subst heq
      rw [List.getElem?_append_right (by omega), h1] at hj
      simp at hj
      subst hj
      exact ha
    · rw [List.getElem?_eq_none (by simp; omega)] at hj
      cases hj
theorem open_RN {H : Type} {enc : TypeId × Value → H} {α : Type} {E : Elem α} {t e : TypeId} {C : Nat} {W : World} {cs : List Value} {x : DataW H × List MemPlace} {fuel : Nat}
    (ht : Tryz.prog.underlying t = some (.slice e)) (hC : Tryz.prog.cellsOf e = C) (hC0 : 0 < C)
    (hread : ∀ (n : Nat) (cs : List Value) (y : DataW H × List MemPlace), cs.length = C → DataW.trod enc Tryz.prog W 0 (fun _ => true) true n e cs = some y → ∃ a : α, E W (Lt W.heap.size) a cs)
    (h : DataW.trod enc Tryz.prog W 0 (fun _ => true) true fuel t cs = some x) :
    ∃ A n c xs, cs = [.slice A n c] ∧ RN E C W (Lt W.heap.size) A n xs ∧ (A = none → c = 0) ∧ n ≤ c ∧ n ≤ maxLen := by
  rcases open_slice ht h with ⟨h1, _⟩ | ⟨a, len, cap, m, n, D, Pl, h1, _, hl, hm, hmm, _, hi⟩
  · exact ⟨none, 0, 0, [], h1, RN.nil, fun _ => rfl, Nat.le_refl _, Nat.zero_le _⟩
  · simp only [if_true] at hmm
    subst hmm
    rw [hC] at hi
    obtain ⟨xs, hx1, hx2⟩ := list_of_each (Q := fun i (y : α) => ∃ vs : List Value, vs.length = C ∧ (∀ k v, vs[k]? = some v → W.cell? (a.add (i * C + k)) = some v) ∧ E W (Lt W.heap.size) y vs) len (by
      intro i hil
      obtain ⟨vs, hc, htr⟩ := hi i (by omega)
      obtain ⟨_, hcl, hat⟩ := World.cells?_some hc
      obtain ⟨y, hy⟩ := hread _ _ _ hcl htr
      refine ⟨y, vs, hcl, fun k v hv => ?_, hy⟩
      have hk : k < C := by rw [← hcl]; exact (List.getElem?_eq_some_iff.1 hv).1
      rw [← add_add, hat k hk, hv])
    refine ⟨some a, len, _, xs, h1, ⟨hx1, fun hn => ?_⟩, (fun e => by cases e), hl, by omega⟩
    obtain ⟨y0, hy0⟩ : ∃ y, xs[0]? = some y := ⟨_, List.getElem?_eq_getElem (by omega)⟩
    obtain ⟨vs0, hl0, hc0, _⟩ := hx2 0 y0 hy0
    have h0 := hc0 0 _ (List.getElem?_eq_getElem (by omega))
    obtain ⟨b, off, spot⟩ := a
    have hs : spot = none := by simpa [Addr.add] using World.cell?_spot h0
    subst hs
    have hb : b < W.heap.size := by simpa [Addr.add] using World.block_lt_of_cell? W _ h0
    refine ⟨b, off, rfl, hb, fun j y hj => ?_⟩
    obtain ⟨vs, k1, k2, k3⟩ := hx2 j y hj
    refine ⟨vs, k1, fun i v hv => ?_, k3⟩
    have := k2 i v hv
    rwa [add_none] at this

end Go.Proofs.YtchogijdkagiiaaGreatDoor

namespace Go.Proofs.YtchogijdkagiiaaGreatDoor
open Go.RowKit

/-- the slice value '.slice A n c' holds the numbers xs, below block B -/
def RI (w : World) (B : Nat) (A : Option Addr) (n : Nat) (xs : List Int) : Prop :=
  xs.length = n ∧ (0 < n → ∃ b off, A = some ⟨b, off, none⟩ ∧ b < B ∧ ∀ j, j < n → w.cell? ⟨b, off + j, none⟩ = some (.int .i64 (xs.getD j 0)))

section
variable {w w' : World} {B B' n : Nat} {A : Option Addr} {xs : List Int}
theorem RI.nil : RI w B A 0 [] := ⟨rfl, fun h => absurd h (by omega)⟩
theorem RI.keep (h : RI w B A n xs) (hk : ∀ p : Addr, p.block < B → w'.cell? p = w.cell? p) : RI w' B A n xs :=
  ⟨h.1, fun hn => by
    obtain ⟨b, off, e, hb, hc⟩ := h.2 hn
    exact ⟨b, off, e, hb, fun j hj => (hk _ hb).trans (hc j hj)⟩⟩
theorem RI.more (h : RI w B A n xs) (hB : B ≤ B') : RI w B' A n xs :=
  ⟨h.1, fun hn => by
    obtain ⟨b, off, e, hb, hc⟩ := h.2 hn
    exact ⟨b, off, e, by omega, hc⟩⟩
theorem RI.below (h : RI w B A n xs) (hb : Below B w w') : RI w' B A n xs := h.keep fun _ hp => hb.cell hp
theorem RI.drewN (h : RI w B A n xs) (k : Nat) : RI (w.drewN k) B A n xs := h
theorem RI.of_own {base : Nat} {e : TypeId} {c : Nat} (h : w.ownsRow base e 1 (.slice A n c) n (xs.map (Value.int .i64))) : RI w w.heap.size A n xs := by
  have hl : xs.length = n := by have := h.1; simpa using this
  refine ⟨hl, fun hn => ?_⟩
  rcases h.2 with ⟨-, h0⟩ | ⟨g, cap, cur, hv, _, hh, _, _, _, _⟩
  · omega
  · injection hv with hv
    subst hv
    refine ⟨g, 0, rfl, (Array.getElem?_eq_some_iff.1 hh).1, fun j hj => ?_⟩
    have := h.cells (g := g) rfl j (.int .i64 (xs.getD j 0)) (by simp [List.getD, show j < xs.length by omega])
    have ha : (⟨g, 0, none⟩ : Addr).add j = ⟨g, j, none⟩ := by unfold Addr.add; split <;> simp_all
    rw [ha] at this
    simpa using this
end


theorem RI.next {w w' : World} {A : Option Addr} {n : Nat} {xs : List Int} (h : RI w w.heap.size A n xs) (hb : Below w.heap.size w w') : RI w' w'.heap.size A n xs := (h.below hb).more hb.size
end Go.Proofs.YtchogijdkagiiaaGreatDoor

namespace Go.Proofs.YtchogijdkagiiaaGreatDoor
open Go.RowKit

theorem RI.one {w : World} {B n k : Nat} {A : Option Addr} {xs : List Int} (h : RI w B A n xs) (hk : k < n) : ∃ b off, A = some ⟨b, off, none⟩ ∧ b < B ∧ w.cell? ⟨b, off + k, none⟩ = some (.int .i64 (xs.getD k 0)) := by
  obtain ⟨b, off, e, hb, hc⟩ := h.2 (by omega)
  exact ⟨b, off, e, hb, hc k hk⟩
/-- numbers, read from whatever memory; all that was there is kept -/
def IPost (l : List Int) (w : World) (e : Ending) (w' : World) : Prop :=
  (∃ A c, e = .returned (.slice A l.length c) ∧ RI w' w'.heap.size A l.length l ∧ (A = none → c = 0) ∧ l.length ≤ c) ∧ Below w.heap.size w w'
theorem ipost_mk {A : Option Addr} {n c : Nat} {xs : List Int} {w w' : World} (hr : RI w' w'.heap.size A n xs) (hnil : A = none → c = 0) (hnc : n ≤ c) (hb : Below w.heap.size w w') : IPost xs w (.returned (.slice A n c)) w' := by
  have := hr.1
  subst this
  exact ⟨⟨A, c, rfl, hr, hnil, hnc⟩, hb⟩
theorem IPost.trans {l : List Int} {w w1 w' : World} {e : Ending} (hb : Below w.heap.size w w1) (h : IPost l w1 e w') : IPost l w e w' := ⟨h.1, hb.trans (h.2.mono hb.size)⟩
theorem ipost_nil {w w' : World} (hb : Below w.heap.size w w') : IPost [] w (.returned (.slice none 0 0)) w' := ipost_mk RI.nil (fun _ => rfl) (Nat.le_refl _) hb
theorem ipost_own {l : List Int} {w w' : World} {B : Nat} {v : Value} (h : w'.ownsRow B 3 1 v l.length (l.map (Value.int .i64))) (hb : Below w.heap.size w w') : IPost l w (.returned v) w' := by
  obtain ⟨A, c, rfl⟩ := own_form h
  exact ipost_mk (RI.of_own h) (own_nil h) (own_cap h) hb
theorem calls_ipost {P : Program} {f : FuncId} {args : Array Value} {w : World} {r l : List Int} (h : Calls P f args w (IPost r w)) (e : r = l) : Calls P f args w (IPost l w) := by
  subst e; exact h
/-- a number as an element -/
def EI : Elem Int := fun _ _ x vs => vs = [.int .i64 x]
theorem ei_steady : Steady EI := ⟨fun h _ _ => h⟩
theorem RN.ri {w : World} {B n : Nat} {A : Option Addr} {xs : List Int} (h : RN EI 1 w (Lt B) A n xs) : RI w B A n xs :=
  ⟨h.1, fun hn => by
    obtain ⟨b, off, e, hb, hc⟩ := h.2 hn
    refine ⟨b, off, e, hb, fun j hj => ?_⟩
    have hl : j < xs.length := by rw [h.1]; exact hj
    obtain ⟨vs, _, h2, h3⟩ := hc j xs[j] (List.getElem?_eq_getElem hl)
    have h3' : vs = [.int .i64 xs[j]] := h3
    subst h3'
    have := h2 0 _ rfl
    rw [show off + (j * 1 + 0) = off + j by omega] at this
    rw [List.getD, List.getElem?_eq_getElem hl]
    exact this⟩
theorem ON.ipost {t : TypeId} {l : List Int} {w w' : World} {v : Value} (h : ON EI 1 t w v l w') : IPost l w (.returned v) w' := by
  obtain ⟨A, c, rfl, h1, h2⟩ := h.form
  exact ipost_mk (h.reads ei_steady (by omega) rfl).ri h1 h2 h.below

/-- append(out, xs...), xs nil or not -/
theorem wpList_append_RI {P : Program} (w : World) {ops : Array Oper} {rest : List Oper} {o : Oper} {a : Act} {Q : Exit → Act → World → Prop} (hgd : o.guard = none) (s x : Operand) (t : TypeId)
    (ho : o.op = .call { callee := .builtin .append, args := #[s, x], argTypes := #[t, t] })
    (base : Nat) (e : TypeId) (i : TypeInfo) (z : Value) (bytes : Nat) (ht : P.underlying t = some (.slice e)) (hi : P.info? e = some i) (hz : i.zero = some z)
    (hsize : i.size = 1) (hby : i.bytes = bytes) (hzs : z.cells.size = 1)
    (v : Value) (n : Nat) (ys : List Value) (hs : a.eval s = v) (hown : w.ownsRow base e 1 v n ys)
    (B : Nat) (A : Option Addr) (m c : Nat) (xs : List Int) (hx : a.eval x = .slice A m c) (hr : RI w B A m xs) (hnil : A = none → c = 0)
    (h63 : n + m ≤ maxLen) (hbytes : (n + m) * bytes ≤ 140737488355328) (hbase : base ≤ w.heap.size)
    (h : ∀ v' w', w'.ownsRow base e 1 v' (n + m) (ys ++ xs.map (Value.int .i64)) → w.grownBy w' v.ownBlock → wpList P ops Q rest (a.put o.dst v') w') : wpList P ops Q (o :: rest) a w := by
  cases A with
  | none =>
    have hc := hnil rfl
    subst hc
    have hm : m = 0 := by
      rcases Nat.eq_zero_or_pos m with h0 | h0
      · exact h0
      · obtain ⟨b, off, e', _⟩ := hr.2 h0; cases e'
    subst hm
    have hxs : xs = [] := List.eq_nil_of_length_eq_zero hr.1
    subst hxs
    exact wpList_append_own_none hgd s x t ho base e i 1 ht hi v n ys hs hown hx (h v w (by simpa using hown) (World.grownBy.refl w _))
  | some ad =>
    refine wpList_append_own w hgd s x t ho base e i z 1 bytes ht hi hz hsize hby hzs (by omega) v n ys hs hown ad m c (xs.map (Value.int .i64)) hx (by simp [hr.1]) ?_ (by intro u hu; obtain ⟨k, _, rfl⟩ := List.mem_map.1 hu; rfl) h63 hbytes hbase fun v' w' h1 h2 _ => h v' w' h1 h2
    intro j u hj
    have hjl : j < xs.length := by
      have := (List.getElem?_eq_some_iff.1 hj).1
      simpa using this
    obtain ⟨b, off, e', _, hc⟩ := hr.2 (by have := hr.1; omega)
    injection e' with e'
    subst e'
    have h1 := hc j (by have := hr.1; omega)
    have ha : (⟨b, off, none⟩ : Addr).add j = ⟨b, off + j, none⟩ := by unfold Addr.add; split <;> simp_all
    rw [ha, h1]
    simp [hjl] at hj
    rw [← hj]
    simp [List.getD, hjl]
/-- an owned row of numbers: its cells, told as a list -/
theorem on_own {t : TypeId} {w wr : World} {v : Value} {xs : List Int} (h : ON EI 1 t w v xs wr) : wr.ownsRow w.heap.size t 1 v xs.length (xs.map (Value.int .i64)) ∧ Below w.heap.size w wr := by
  obtain ⟨fl, h1, h2, h3⟩ := h
  have e : fl = xs.map (Value.int .i64) := by
    apply List.ext_getElem?
    intro j
    by_cases hj : j < xs.length
    · have hx : xs[j]? = some xs[j] := List.getElem?_eq_getElem hj
      have h4 : (fl.drop (j * 1)).take 1 = [.int .i64 xs[j]] := h3 j _ hx
      have h5 : ((fl.drop (j * 1)).take 1)[0]? = some (.int .i64 xs[j]) := by rw [h4]; rfl
      rw [List.getElem?_take_of_lt (by omega), List.getElem?_drop] at h5
      rw [List.getElem?_map, hx]
      simpa using h5
    · have h6 := h1.1
      rw [List.getElem?_eq_none (by omega), List.getElem?_eq_none (by simp; omega)]
  subst e
  exact ⟨h1, h2⟩
theorem own_on {t : TypeId} {w wr : World} {v : Value} {xs : List Int} (h : wr.ownsRow w.heap.size t 1 v xs.length (xs.map (Value.int .i64))) (hb : Below w.heap.size w wr) : ON EI 1 t w v xs wr :=
  ⟨_, h, hb, fun j x hx => by
    show _ = _
    have hj := (List.getElem?_eq_some_iff.1 hx).1
    rw [← List.map_drop, ← List.map_take]
    have : (xs.drop (j * 1)).take 1 = [x] := by
      rw [Nat.mul_one, List.drop_eq_getElem_cons hj]
      have hxj := (List.getElem?_eq_some_iff.1 hx).2
      rw [hxj]; rfl
    rw [this]; rfl⟩

end Go.Proofs.YtchogijdkagiiaaGreatDoor

namespace Go.Proofs.YtchogijdkagiiaaGreatDoor
open Go.ChangeShapes Go.WideShapes Go.ChangeAt Go.RowKit Go.Deep

/-- a number, in an int's bounds, as an element -/
def EJ : Elem Int := fun _ _ x vs => vs = [.int .i64 x] ∧ I64 x
theorem RN.rj {w : World} {B n : Nat} {A : Option Addr} {xs : List Int} (h : RN EJ 1 w (Lt B) A n xs) : RI w B A n xs ∧ ∀ x ∈ xs, I64 x := by
  have h' : RN EI 1 w (Lt B) A n xs := ⟨h.1, fun hn => by
    obtain ⟨b, off, e, hb, hc⟩ := h.2 hn
    exact ⟨b, off, e, hb, fun j x hx => let ⟨vs, h1, h2, h3⟩ := hc j x hx; ⟨vs, h1, h2, h3.1⟩⟩⟩
  refine ⟨h'.ri, fun x hx => ?_⟩
  obtain ⟨k, hk, rfl⟩ := List.getElem_of_mem hx
  obtain ⟨_, _, _, _, _, _, _, h3⟩ := RN.at h (List.getElem?_eq_getElem hk)
  exact h3.2
set_option maxRecDepth 100000 in
theorem open_RJ {H : Type} {enc : TypeId × Value → H} {W : World} {b0 : Nat} {v : Value} {d : DataW H} {ps : List MemPlace}
    (hval : Value.okWide Tryz.prog W .any b0 23 v) (h : DataW.Trod enc Tryz.prog W 0 (fun _ => true) true 23 v d ps) :
    ∃ A n c xs, v = .slice A n c ∧ RI W W.heap.size A n xs ∧ (∀ x ∈ xs, I64 x) ∧ (A = none → c = 0) ∧ n ≤ c ∧ n ≤ maxLen := by
  obtain ⟨fuel, hf⟩ := h
  obtain ⟨a', n', c', rfl⟩ := okWide_slice Tryz.underlying23 hval
  obtain ⟨A, n, c, xs, e, hr, h1, h2, h3⟩ := open_RN (E := EJ) (C := 1) Tryz.underlying23 (by kernel_rfl) (by omega) (fun n cs y _ ht => by
    obtain ⟨z, e0, _, hw⟩ := DataW.trod_int Tryz.underlying3 ht
    exact ⟨z, e0, i64_wf hw⟩) hf
  simp [Value.cells] at e
  obtain ⟨rfl, rfl, rfl⟩ := e
  obtain ⟨g1, g2⟩ := hr.rj
  exact ⟨_, _, _, xs, rfl, g1, g2, h1, h2, h3⟩

set_option maxRecDepth 100000 in
theorem open_things {H : Type} {enc : TypeId × Value → H} {W : World} {v : Value} {x : DataW H × List MemPlace} {fuel : Nat}
    (hf : DataW.trod enc Tryz.prog W 0 (fun _ => true) true fuel 23 [v] = some x) : ∃ A m c xs, v = .slice A m c ∧ RN EI 1 W (Lt W.heap.size) A m xs ∧ (A = none → c = 0) ∧ m ≤ c ∧ m ≤ maxLen ∧ ∀ n ∈ xs, I64 n := by
  obtain ⟨A, n, c, xs, e, hr, h1, h2, h3⟩ := open_RN (E := fun w ok x vs => EI w ok x vs ∧ I64 x) (C := 1) Tryz.underlying23 (by kernel_rfl) (by omega) (fun n cs y _ ht => by
    obtain ⟨z, e, _, wz⟩ := DataW.trod_int Tryz.underlying3 ht
    exact ⟨z, by rw [e]; rfl, i64_wf wz⟩) hf
  refine ⟨A, n, c, xs, by simpa using e, ⟨hr.1, fun hn => ?_⟩, h1, h2, h3, fun z hz => ?_⟩
  · obtain ⟨b, off, e, hb, hc⟩ := hr.2 hn
    refine ⟨b, off, e, hb, fun j x hx => ?_⟩
    obtain ⟨vs, a1, a2, a3⟩ := hc j x hx
    exact ⟨vs, a1, a2, a3.1⟩
  · obtain ⟨j, hj, rfl⟩ := List.getElem_of_mem hz
    obtain ⟨b, off, e, hb, hc⟩ := hr.2 (by have := hr.1; omega)
    obtain ⟨vs, a1, a2, a3⟩ := hc j _ (List.getElem?_eq_getElem hj)
    exact a3.2

end Go.Proofs.YtchogijdkagiiaaGreatDoor

namespace Go.Proofs.YtchogijdkagiiaaGreatDoor

/-- place i of l: in range, and above the place before it -/
def okAt (l : List Int) (i : Nat) : Prop := 0 ≤ l.getD i 0 ∧ l.getD i 0 ≤ 255 ∧ (0 < i → l.getD (i - 1) 0 < l.getD i 0)
instance (l : List Int) (i : Nat) : Decidable (okAt l i) := by unfold okAt; infer_instance
def rightB (l : List Int) : Bool := decide (∀ i, i < l.length → okAt l i)

theorem rightB_iff (l : List Int) : rightB l = true ↔ ∀ i, i < l.length → okAt l i := by simp [rightB]
theorem rightB_false (l : List Int) (i : Nat) (hi : i < l.length) (h : ¬ okAt l i) : rightB l = false := by
  rw [← Bool.not_eq_true, rightB_iff]; exact fun H => h (H i hi)

theorem okAt_cons (x : Int) (t : List Int) (i : Nat) (hi : 0 < i) : okAt (x :: t) (i + 1) ↔ okAt t i := by
  unfold okAt
  have e : i + 1 - 1 = (i - 1) + 1 := by omega
  rw [e, List.getD_cons_succ, List.getD_cons_succ]
  simp [hi]

theorem right_tail {x : Int} {t : List Int} (h : rightB (x :: t) = true) : rightB t = true := by
  rw [rightB_iff] at h ⊢
  intro i hi
  rcases Nat.eq_zero_or_pos i with rfl | hp
  · have h1 := h 1 (by simp; omega)
    have h0 := h 0 (by simp)
    unfold okAt at h1 h0 ⊢
    simp at h1 h0 ⊢
    omega
  · exact (okAt_cons x t i hp).1 (h (i + 1) (by simp; omega))

theorem right_head {x : Int} {t : List Int} (h : rightB (x :: t) = true) : 0 ≤ x ∧ x ≤ 255 := by
  rw [rightB_iff] at h
  have h0 := h 0 (by simp)
  unfold okAt at h0; simp at h0; omega

theorem right_below {x : Int} {t : List Int} (h : rightB (x :: t) = true) : ∀ y ∈ t, x < y := by
  induction t generalizing x with
  | nil => intro y hy; cases hy
  | cons z t ih =>
    have hz : x < z := by
      rw [rightB_iff] at h
      have h1 := h 1 (by simp)
      unfold okAt at h1; simp at h1; omega
    intro y hy
    rcases List.mem_cons.1 hy with rfl | hy
    · exact hz
    · have := ih (right_tail h) y hy
      omega

theorem right_cons {x : Int} {t : List Int} (hx : 0 ≤ x ∧ x ≤ 255) (ht : rightB t = true) (hb : ∀ y ∈ t, x < y) : rightB (x :: t) = true := by
  rw [rightB_iff] at ht ⊢
  intro i hi
  rcases Nat.eq_zero_or_pos i with rfl | hp
  · unfold okAt; simp; exact hx
  · obtain ⟨j, rfl⟩ : ∃ j, i = j + 1 := ⟨i - 1, by omega⟩
    have hj : j < t.length := by simpa using hi
    have hk := ht j hj
    rcases Nat.eq_zero_or_pos j with rfl | hjp
    · have := hb (t.getD 0 0) (by simp [List.getD, hj])
      unfold okAt at hk ⊢
      simp at hk this ⊢
      omega
    · exact (okAt_cons x t j hjp).2 hk

theorem right_mem {l : List Int} (h : rightB l = true) : ∀ n ∈ l, 0 ≤ n ∧ n ≤ 255 := by
  induction l with
  | nil => intro n hn; cases hn
  | cons x t ih =>
    intro n hn
    rcases List.mem_cons.1 hn with rfl | hn
    · exact right_head h
    · exact ih (right_tail h) n hn

/-- two sets with the same numbers are one -/
theorem right_ext {a b : List Int} (ha : rightB a = true) (hb : rightB b = true) (h : ∀ n, n ∈ a ↔ n ∈ b) : a = b := by
  induction a generalizing b with
  | nil =>
    cases b with
    | nil => rfl
    | cons y t => exact absurd ((h y).2 (by simp)) (by simp)
  | cons x s ih =>
    cases b with
    | nil => exact absurd ((h x).1 (by simp)) (by simp)
    | cons y t =>
      have hxy : x = y := by
        have h1 := (h x).1 (by simp)
        have h2 := (h y).2 (by simp)
        rcases List.mem_cons.1 h1 with e | e
        · exact e
        · rcases List.mem_cons.1 h2 with e' | e'
          · exact e'.symm
          · have := right_below hb x e; have := right_below ha y e'; omega
      subst hxy
      rw [ih (right_tail ha) (right_tail hb) fun n => ?_]
      constructor
      · intro hn
        rcases List.mem_cons.1 ((h n).1 (List.mem_cons_of_mem _ hn)) with e | e
        · subst e; have := right_below ha n hn; omega
        · exact e
      · intro hn
        rcases List.mem_cons.1 ((h n).2 (List.mem_cons_of_mem _ hn)) with e | e
        · subst e; have := right_below hb n hn; omega
        · exact e

/-- the numbers from m up to below m + k that p says yes to -/
def pickN (p : Int → Bool) : Nat → Nat → List Int
  | _, 0 => []
  | m, k + 1 => if p m then (m : Int) :: pickN p (m + 1) k else pickN p (m + 1) k
def pickL (p : Int → Bool) : List Int := pickN p 0 256

theorem mem_pickN (p : Int → Bool) (n : Int) : ∀ (k m : Nat), n ∈ pickN p m k ↔ ((m : Int) ≤ n ∧ n < m + k ∧ p n = true)
  | 0, m => by simp [pickN]; omega
  | k + 1, m => by
    have ih := mem_pickN p n k (m + 1)
    unfold pickN
    by_cases hn : n = m
    · subst hn
      by_cases hp : p m = true
      · simp [hp]; omega
      · simp [hp, ih]
    · split
      · rw [List.mem_cons, ih]
        constructor
        · rintro (e | e)
          · exact absurd e hn
          · refine ⟨by omega, by omega, e.2.2⟩
        · intro e; right; exact ⟨by omega, by omega, e.2.2⟩
      · rw [ih]
        constructor
        · intro e; exact ⟨by omega, by omega, e.2.2⟩
        · intro e; exact ⟨by omega, by omega, e.2.2⟩

theorem mem_pickL (p : Int → Bool) (n : Int) : n ∈ pickL p ↔ (0 ≤ n ∧ n ≤ 255 ∧ p n = true) := by
  unfold pickL
  rw [mem_pickN]
  constructor
  · intro h; exact ⟨by omega, by omega, h.2.2⟩
  · intro h; exact ⟨by omega, by omega, h.2.2⟩

theorem right_pickN (p : Int → Bool) : ∀ (k m : Nat), m + k ≤ 256 → rightB (pickN p m k) = true
  | 0, m, _ => by simp [pickN, rightB]
  | k + 1, m, h => by
    have ih := right_pickN p k (m + 1) (by omega)
    unfold pickN
    split
    · refine right_cons (by omega) ih fun y hy => ?_
      have := (mem_pickN p y k (m + 1)).1 hy
      omega
    · exact ih

theorem right_pickL (p : Int → Bool) : rightB (pickL p) = true := right_pickN p 256 0 (by omega)

theorem length_pickN (p : Int → Bool) : ∀ (k m : Nat), (pickN p m k).length ≤ k
  | 0, _ => by simp [pickN]
  | k + 1, m => by
    have ih := length_pickN p k (m + 1)
    unfold pickN
    split
    · simp; omega
    · omega
theorem length_pickL (p : Int → Bool) : (pickL p).length ≤ 256 := length_pickN p 256 0

theorem pickN_snoc (p : Int → Bool) : ∀ (k m : Nat), pickN p m (k + 1) = pickN p m k ++ (if p ((m + k : Nat) : Int) then [((m + k : Nat) : Int)] else [])
  | 0, m => by simp [pickN]
  | k + 1, m => by
    have ih := pickN_snoc p k (m + 1)
    rw [pickN, ih]
    conv => rhs; rw [pickN]
    have e : m + 1 + k = m + (k + 1) := by omega
    rw [e]
    split <;> simp

def inB (xs : List Int) (v : Int) : Bool := xs.contains v

/-- what the document says of two sets: 0 either, 1 both, 2 the first alone -/
def keeps (how : Nat) (a b : List Int) (n : Int) : Bool :=
  if how = 0 then a.contains n || b.contains n else if how = 1 then a.contains n && b.contains n else a.contains n && !b.contains n
def whichL (how : Nat) (a b : List Int) : List Int := if rightB a && rightB b then pickL (keeps how a b) else []
def joinL (a b : List Int) : List Int := whichL 0 a b
def meetL (a b : List Int) : List Int := whichL 1 a b
def lessL (a b : List Int) : List Int := whichL 2 a b
def hasB (a : List Int) (n : Int) : Bool := rightB a && a.contains n
def partB (a b : List Int) : Bool := rightB a && rightB b && a.all fun n => b.contains n
def apartB (a b : List Int) : Bool := rightB a && rightB b && a.all fun n => !b.contains n

theorem right_whichL (how : Nat) (a b : List Int) : rightB (whichL how a b) = true := by
  unfold whichL; split
  · exact right_pickL _
  · simp [rightB]
theorem length_whichL (how : Nat) (a b : List Int) : (whichL how a b).length ≤ 256 := by
  unfold whichL; split
  · exact length_pickL _
  · simp

theorem whichL_wrong {how : Nat} {a b : List Int} (h : (rightB a && rightB b) = false) : whichL how a b = [] := by
  unfold whichL; rw [h]; rfl

theorem mem_joinL {a b : List Int} (ha : rightB a = true) (hb : rightB b = true) (n : Int) : n ∈ joinL a b ↔ n ∈ a ∨ n ∈ b := by
  unfold joinL whichL
  rw [ha, hb]
  simp only [Bool.and_self, if_true, mem_pickL, keeps, Bool.or_eq_true, List.contains_iff_mem]
  constructor
  · exact fun h => h.2.2
  · intro h
    have : 0 ≤ n ∧ n ≤ 255 := by exact h.elim (right_mem ha n) (right_mem hb n)
    exact ⟨this.1, this.2, h⟩
theorem mem_meetL {a b : List Int} (ha : rightB a = true) (hb : rightB b = true) (n : Int) : n ∈ meetL a b ↔ n ∈ a ∧ n ∈ b := by
  unfold meetL whichL
  rw [ha, hb]
  simp only [Bool.and_self, if_true, mem_pickL, keeps]
  simp only [Nat.one_ne_zero, if_false, Bool.and_eq_true, List.contains_iff_mem]
  constructor
  · exact fun h => h.2.2
  · intro h; have := right_mem ha n h.1; exact ⟨this.1, this.2, h⟩
theorem mem_lessL {a b : List Int} (ha : rightB a = true) (hb : rightB b = true) (n : Int) : n ∈ lessL a b ↔ n ∈ a ∧ n ∉ b := by
  unfold lessL whichL
  rw [ha, hb]
  simp only [Bool.and_self, if_true, mem_pickL, keeps]
  have e2 : ¬ (2 : Nat) = 0 := by omega
  have e1 : ¬ (2 : Nat) = 1 := by omega
  simp only [e2, e1, if_false, Bool.and_eq_true, List.contains_iff_mem, Bool.not_eq_true', ← Bool.not_eq_true]
  constructor
  · exact fun h => h.2.2
  · intro h; have := right_mem ha n h.1; exact ⟨this.1, this.2, h⟩

theorem right_joinL (a b : List Int) : rightB (joinL a b) = true := right_whichL 0 a b
theorem right_meetL (a b : List Int) : rightB (meetL a b) = true := right_whichL 1 a b
theorem right_lessL (a b : List Int) : rightB (lessL a b) = true := right_whichL 2 a b

end Go.Proofs.YtchogijdkagiiaaGreatDoor

namespace Go.Proofs.YtchogijdkagiiaaGreatDoor

/-- a thing: its kind, what it is part of, its tag -/
structure Th where
  kind : Int
  up : Int
  tag : ByteArray
def th0 : Th := ⟨0, 0, ⟨#[]⟩⟩
abbrev Gr := List Th
def gk (g : Gr) (i : Nat) : Int := (g.getD i th0).kind
def gu (g : Gr) (i : Nat) : Int := (g.getD i th0).up
def gt (g : Gr) (i : Nat) : ByteArray := (g.getD i th0).tag

def tagC (c : UInt8) : Bool := (97 ≤ c.toNat && c.toNat ≤ 122) || (48 ≤ c.toNat && c.toNat ≤ 57)
def tagB (s : ByteArray) : Bool := s.data.toList.all tagC && decide (s.size ≤ 16)
/-- thing i stands where it may -/
def okT (g : Gr) (i : Nat) : Prop :=
  if i = 0 then gk g 0 = 0 ∧ gu g 0 = -1 ∧ (gt g 0).size = 0 else
    0 ≤ gu g i ∧ gu g i < i ∧ ((gt g i).size = 0 ∨ gk g i = 2) ∧ tagB (gt g i) = true ∧
      ((gk g i = 1 ∧ gk g (gu g i).toNat = 0) ∨ (gk g i = 2 ∧ gk g (gu g i).toNat < 2) ∨ ((gk g i = 3 ∨ gk g i = 4) ∧ gk g (gu g i).toNat = 2))
instance (g : Gr) (i : Nat) : Decidable (okT g i) := by unfold okT; infer_instance
def rightG (g : Gr) : Bool := decide (g ≠ [] ∧ g.length ≤ 256 ∧ ∀ i, i < g.length → okT g i)

/-- the parent's number -/
def par (g : Gr) (k : Nat) : Nat := (gu g k).toNat
/-- is n the thing k, or is k a part of it: up the chain, as far as n -/
def overF (g : Gr) (n : Nat) : Nat → Nat → Bool
  | 0, k => k == n
  | f + 1, k => if n < k then overF g n f (par g k) else k == n
def overG (g : Gr) (n k : Nat) : Bool := overF g n k k

structure RightG (g : Gr) : Prop where
  pos : 0 < g.length
  few : g.length ≤ 256
  top : gk g 0 = 0 ∧ gu g 0 = -1
  up : ∀ i, 0 < i → i < g.length → 0 ≤ gu g i ∧ par g i < i
  kind : ∀ i, 0 < i → i < g.length → (gk g i = 1 ∧ gk g (par g i) = 0) ∨ (gk g i = 2 ∧ gk g (par g i) < 2) ∨ ((gk g i = 3 ∨ gk g i = 4) ∧ gk g (par g i) = 2)
theorem rightG_is {g : Gr} (h : rightG g = true) : RightG g := by
  unfold rightG at h
  rw [decide_eq_true_eq] at h
  obtain ⟨h1, h2, h3⟩ := h
  have h0 := h3 0 (List.length_pos_iff.2 h1)
  unfold okT at h0
  rw [if_pos rfl] at h0
  refine ⟨List.length_pos_iff.2 h1, h2, ⟨h0.1, h0.2.1⟩, fun i hi hl => ?_, fun i hi hl => ?_⟩
  all_goals
    have := h3 i hl
    unfold okT at this
    rw [if_neg (by omega)] at this
  · unfold par; omega
  · exact this.2.2.2.2
section
variable {g : Gr} (hg : RightG g) {n k m : Nat}
include hg
theorem RightG.kinds (hk : k < g.length) : 0 ≤ gk g k ∧ gk g k ≤ 4 := by
  rcases Nat.eq_zero_or_pos k with h | h
  · subst h; have := hg.top.1; omega
  · rcases hg.kind k h hk with h | h | h <;> omega
/-- more steps than are needed change nothing -/
theorem overF_more : ∀ (f : Nat) (k : Nat), k < g.length → k ≤ f → overF g n f k = overF g n k k := by
  have hg' := hg
  intro f
  induction f using Nat.strongRecOn with
  | _ f ih =>
    intro k hk hf
    rcases Nat.eq_zero_or_pos k with h | h
    · subst h
      cases f with
      | zero => rfl
      | succ f => show (if n < 0 then _ else (0 == n)) = (0 == n); rw [if_neg (by omega)]
    · obtain ⟨f', rfl⟩ : ∃ f', f = f' + 1 := ⟨f - 1, by omega⟩
      obtain ⟨k', rfl⟩ : ∃ k', k = k' + 1 := ⟨k - 1, by omega⟩
      have hp := (hg.up (k' + 1) (by omega) hk).2
      show (if n < k' + 1 then overF g n f' (par g (k' + 1)) else _) = (if n < k' + 1 then overF g n k' (par g (k' + 1)) else _)
      split
      · rw [ih f' (by omega) _ (by omega) (by omega)]
        by_cases hkf : k' = f'
        · subst hkf; rw [ih k' (by omega) _ (by omega) (by omega)]
        · rw [ih k' (by omega) _ (by omega) (by omega)]
      · rfl
/-- up one step -/
theorem over_up (hk : k < g.length) (h : n < k) : overG g n k = overG g n (par g k) := by
  have hp := (hg.up k (by omega) hk).2
  obtain ⟨k', rfl⟩ : ∃ k', k = k' + 1 := ⟨k - 1, by omega⟩
  show (if n < k' + 1 then overF g n k' (par g (k' + 1)) else _) = _
  rw [if_pos h]
  exact overF_more hg k' (par g (k' + 1)) (by omega) (by omega)
omit hg in
theorem over_end (h : ¬ n < k) : overG g n k = (k == n) := by
  unfold overG
  cases k with
  | zero => rfl
  | succ k => show (if n < k + 1 then _ else _) = _; rw [if_neg h]
omit hg in
theorem over_self : overG g n n = true := by rw [over_end (by omega)]; simp
omit hg in
theorem over_le (h : overG g n k = true) : n ≤ k := by
  by_cases hnk : n < k
  · omega
  · rw [over_end hnk] at h; simp at h; omega
theorem over_zero : ∀ (k : Nat), k < g.length → overG g 0 k = true := by
  intro k
  induction k using Nat.strongRecOn with
  | _ k ih =>
    intro hk
    rcases Nat.eq_zero_or_pos k with h | h
    · subst h; exact over_self
    · rw [over_up hg hk h]
      have := (hg.up k h hk).2
      exact ih _ this (by omega)
/-- what is part of a part is a part -/
theorem over_trans : ∀ (k : Nat), k < g.length → overG g m k = true → overG g n m = true → overG g n k = true := by
  intro k
  induction k using Nat.strongRecOn with
  | _ k ih =>
    intro hk h1 h2
    by_cases hmk : m < k
    · have hp := (hg.up k (by omega) hk).2
      rw [over_up hg hk hmk] at h1
      have hnm := over_le h2
      have hmp := over_le h1
      rw [over_up hg hk (by omega)]
      exact ih _ hp (by omega) h1 h2
    · rw [over_end hmk] at h1
      simp at h1
      subst h1
      exact h2
/-- of two that are over one thing, one is over the other -/
theorem over_chain : ∀ (k : Nat), k < g.length → overG g n k = true → overG g m k = true → n ≤ m → overG g n m = true := by
  intro k
  induction k using Nat.strongRecOn with
  | _ k ih =>
    intro hk h1 h2 hnm
    by_cases hmk : m < k
    · have hp := (hg.up k (by omega) hk).2
      rw [over_up hg hk hmk] at h2
      rw [over_up hg hk (by omega)] at h1
      exact ih _ hp (by omega) h1 h2 hnm
    · rw [over_end hmk] at h2
      simp at h2
      subst h2
      exact h1
end

/-! sets of things -/
def numsF (p : Nat → Bool) (n : Nat) : List Int := ((List.range n).filter p).map Int.ofNat
theorem mem_numsF {p : Nat → Bool} {n : Nat} {x : Int} : x ∈ numsF p n ↔ ∃ k : Nat, k < n ∧ p k = true ∧ x = k := by
  unfold numsF
  rw [List.mem_map]
  constructor
  · rintro ⟨k, hk, rfl⟩
    rw [List.mem_filter, List.mem_range] at hk
    exact ⟨k, hk.1, hk.2, rfl⟩
  · rintro ⟨k, hk, hp, rfl⟩
    exact ⟨k, by rw [List.mem_filter, List.mem_range]; exact ⟨hk, hp⟩, rfl⟩
theorem mem_numsF_nat {p : Nat → Bool} {n k : Nat} : (k : Int) ∈ numsF p n ↔ k < n ∧ p k = true := by
  rw [mem_numsF]
  constructor
  · rintro ⟨j, h1, h2, h3⟩
    obtain rfl : k = j := by omega
    exact ⟨h1, h2⟩
  · rintro ⟨h1, h2⟩
    exact ⟨k, h1, h2, rfl⟩
theorem numsF_succ (p : Nat → Bool) (n : Nat) : numsF p (n + 1) = numsF p n ++ (if p n = true then [(n : Int)] else []) := by
  unfold numsF
  rw [List.range_succ, List.filter_append, List.map_append]
  congr 1
  by_cases h : p n = true
  · rw [if_pos h]; simp [h]
  · rw [if_neg h]; simp [h]
theorem numsF_yes {p : Nat → Bool} {n : Nat} (h : p n = true) : numsF p (n + 1) = numsF p n ++ [(n : Int)] := by rw [numsF_succ, if_pos h]
theorem numsF_no {p : Nat → Bool} {n : Nat} (h : p n = false) : numsF p (n + 1) = numsF p n := by rw [numsF_succ, if_neg (by rw [h]; simp), List.append_nil]
theorem numsF_len (p : Nat → Bool) (n : Nat) : (numsF p n).length ≤ n := by
  unfold numsF
  rw [List.length_map]
  have := List.length_filter_le p (List.range n)
  rw [List.length_range] at this
  exact this
theorem numsF_pick (p : Nat → Bool) (n : Nat) : ∀ (_ : n ≤ 256), numsF p n = pickN (fun x => decide (0 ≤ x) && p x.toNat) 0 n := by
  intro hn
  induction n with
  | zero => rfl
  | succ n ih =>
    rw [numsF_succ, pickN_snoc, ih (by omega)]
    simp
theorem numsF_right (p : Nat → Bool) {n : Nat} (hn : n ≤ 256) : rightB (numsF p n) = true := by
  rw [numsF_pick p n hn]; exact right_pickN _ n 0 (by omega)
theorem numsF_ext {p q : Nat → Bool} {n : Nat} (h : ∀ k, k < n → p k = q k) : numsF p n = numsF q n := by
  unfold numsF
  congr 1
  exact List.filter_congr fun k hk => h k (List.mem_range.1 hk)

/-- thing n and all that is part of it; n and what it is part of -/
def underL (g : Gr) (n : Int) : List Int := if rightG g = true ∧ 0 ≤ n ∧ n < g.length then numsF (overG g n.toNat) g.length else []
def nodesL (g : Gr) : List Int := if rightG g = true then numsF (fun k => gk g k == 2) g.length else []
/-- how many of the first n things are in the set and of this kind -/
def cntK (g : Gr) (l : List Int) (c : Int) (n : Nat) : Nat := ((List.range n).filter fun k : Nat => hasB l (k : Int) && gk g k == c).length
def kc (g : Gr) (l : List Int) (c : Int) : Int := if rightG g = true then (cntK g l c g.length : Int) else 0
end Go.Proofs.YtchogijdkagiiaaGreatDoor

namespace Go.Proofs.YtchogijdkagiiaaGreatDoor
open Go.RowKit

/-- a thing as an element: three cells -/
def ETh : Elem Th := fun _ _ x vs => vs = [.int .i64 x.kind, .int .i64 x.up, .string x.tag] ∧ I64 x.kind ∧ I64 x.up ∧ x.tag.size ≤ maxLen
theorem eth_steady : Steady ETh := ⟨fun h _ _ => h⟩
/-- '.slice A n c' reads as the things g, all below block B -/
def RG (w : World) (B : Nat) (A : Option Addr) (n : Nat) (g : Gr) : Prop := RN ETh 3 w (Lt B) A n g
section
variable {w w' : World} {B n : Nat} {A : Option Addr} {g : Gr}
theorem RG.len (h : RG w B A n g) : g.length = n := h.1
theorem RG.next (h : RG w w.heap.size A n g) (hb : Below w.heap.size w w') : RG w' w'.heap.size A n g := RN.next eth_steady h hb
theorem RG.below (h : RG w B A n g) (hb : Below B w w') : RG w' B A n g := RN.below eth_steady h hb
theorem RG.one (h : RG w B A n g) {k : Nat} (hk : k < n) : ∃ b off, A = some ⟨b, off, none⟩ ∧ b < B ∧ w.cell? ⟨b, off + k * 3, none⟩ = some (.int .i64 (gk g k)) ∧ w.cell? ⟨b, off + k * 3 + 1, none⟩ = some (.int .i64 (gu g k)) ∧ w.cell? ⟨b, off + k * 3 + 2, none⟩ = some (.string (gt g k)) ∧ (I64 (gk g k) ∧ I64 (gu g k) ∧ (gt g k).size ≤ maxLen) := by
  have hl : k < g.length := by rw [h.1]; exact hk
  obtain ⟨b, off, vs, e, hb, _, hc, hv⟩ := RN.at h (List.getElem?_eq_getElem hl)
  obtain ⟨hv', hb1⟩ := hv
  subst hv'
  have hg : g.getD k th0 = g[k] := by rw [List.getD, List.getElem?_eq_getElem hl]; rfl
  refine ⟨b, off, e, hb, ?_, ?_, ?_, by unfold gk gu gt; rw [hg]; exact hb1⟩
  · have := hc 0 _ rfl; unfold gk; rw [hg]; exact this
  · have := hc 1 _ rfl; unfold gu; rw [hg]; exact this
  · have := hc 2 _ rfl; unfold gt; rw [hg]; exact this
end

end Go.Proofs.YtchogijdkagiiaaGreatDoor

namespace Go.Proofs.YtchogijdkagiiaaGreatDoor
open Go.ChangeShapes Go.WideShapes Go.ChangeAt Go.RowKit Go.Deep

set_option maxRecDepth 100000 in
theorem open_thing {H : Type} {enc : TypeId × Value → H} {W : World} {cs : List Value} {x : DataW H × List MemPlace} {fuel : Nat}
    (hl : cs.length = 3) (hf : DataW.trod enc Tryz.prog W 0 (fun _ => true) true fuel 58 cs = some x) : ∃ a, ETh W (Lt W.heap.size) a cs := by
  obtain ⟨ys, n', hn', hy, hlen, hyl, hfs⟩ := DataW.trod_struct Tryz.underlying58 hf
  obtain ⟨v0, v1, v2, rfl⟩ : ∃ v0 v1 v2, cs = [v0, v1, v2] := by
    match cs, hl with
    | [a, b, c], _ => exact ⟨a, b, c, rfl⟩
  have c3 : Tryz.prog.cellsOf 3 = 1 := by kernel_rfl
  have c9 : Tryz.prog.cellsOf 9 = 1 := by kernel_rfl
  have h0 : DataW.trod enc Tryz.prog W 0 (fun _ => true) true n' 3 (List.take (Tryz.prog.cellsOf 3) [v0, v1, v2]) = ys[0]? := hfs 0 _ rfl
  have h1 : DataW.trod enc Tryz.prog W 0 (fun _ => true) true n' 3 (List.take (Tryz.prog.cellsOf 3) [v1, v2]) = ys[1]? := hfs 1 _ rfl
  have h2 : DataW.trod enc Tryz.prog W 0 (fun _ => true) true n' 9 (List.take (Tryz.prog.cellsOf 9) [v2]) = ys[2]? := hfs 2 _ rfl
  rw [c3] at h0 h1
  rw [c9] at h2
  obtain ⟨y0, y1, y2, rfl⟩ : ∃ y0 y1 y2, ys = [y0, y1, y2] := by
    match ys, hyl with
    | [a, b, c], _ => exact ⟨a, b, c, rfl⟩
  obtain ⟨z0, e0, _, w0⟩ := DataW.trod_int Tryz.underlying3 h0
  obtain ⟨z1, e1, _, w1⟩ := DataW.trod_int Tryz.underlying3 h1
  obtain ⟨s, e2, _, w2⟩ := DataW.trod_string Tryz.underlying9 h2
  simp at e0 e1 e2
  subst e0 e1 e2
  exact ⟨⟨z0, z1, s⟩, rfl, i64_wf w0, i64_wf w1, w2⟩
set_option maxRecDepth 100000 in
theorem open_RG {H : Type} {enc : TypeId × Value → H} {W : World} {b0 : Nat} {v : Value} {d : DataW H} {ps : List MemPlace}
    (hval : Value.okWide Tryz.prog W .any b0 22 v) (h : DataW.Trod enc Tryz.prog W 0 (fun _ => true) true 22 v d ps) :
    ∃ A n c g, v = .slice A n c ∧ RG W W.heap.size A n g ∧ (A = none → c = 0) ∧ n ≤ c ∧ n ≤ maxLen := by
  obtain ⟨fuel, hf⟩ := h
  obtain ⟨a', n', c', rfl⟩ := okWide_slice Tryz.underlying22 hval
  obtain ⟨A, n, c, xs, e, hr, h1, h2, h3⟩ := open_RN (E := ETh) (C := 3) Tryz.underlying22 (by kernel_rfl) (by omega) (fun n cs y hl ht => open_thing hl ht) hf
  simp [Value.cells] at e
  obtain ⟨rfl, rfl, rfl⟩ := e
  exact ⟨_, _, _, xs, rfl, hr, h1, h2, h3⟩

end Go.Proofs.YtchogijdkagiiaaGreatDoor

namespace Go.Proofs.YtchogijdkagiiaaGreatDoor
open Go.RowKit

def nearZ (x : Int) : Int := if x < 0 then 0 else if 4611686018427387904 < x then 4611686018427387904 else x
def plusZ (t l : Int) : Int := if 4611686018427387904 < nearZ t + nearZ l then 4611686018427387904 else nearZ t + nearZ l
theorem nearZ_range (x : Int) : 0 ≤ nearZ x ∧ nearZ x ≤ 4611686018427387904 := by unfold nearZ; repeat' split; all_goals omega

theorem refNear_any (x : Int) (w : World) (h1 : -9223372036854775808 ≤ x) (h2 : x ≤ 9223372036854775807) :
    Calls Tryz.prog 80 #[.int .i64 x] w fun e w' => e = .returned (.int .u64 (nearZ x)) ∧ w = w' := by
  by_cases h3 : x < 0
  · have e : Hid (nearZ x = 0) := Lib.hid (by unfold nearZ; rw [if_pos h3])
    go_enter Tryz.func80, Tryz.ntmps80
    go_wp2
    go_ret
    exact ⟨ret_num e.out.symm, rfl⟩
  · by_cases h4 : 4611686018427387904 < x
    · have e : Hid (nearZ x = 4611686018427387904) := Lib.hid (by unfold nearZ; rw [if_neg h3, if_pos h4])
      go_enter Tryz.func80, Tryz.ntmps80
      go_wp2
      go_ret
      exact ⟨ret_num e.out.symm, rfl⟩
    · have e : Hid (nearZ x = x) := Lib.hid (by unfold nearZ; rw [if_neg h3, if_neg h4])
      go_enter Tryz.func80, Tryz.ntmps80
      go_wp2
      go_ret
      refine ⟨ret_num ?_, rfl⟩
      rw [e.out]

theorem refPlus_any (t l : Int) (w : World) (h1 : -9223372036854775808 ≤ t) (h2 : t ≤ 9223372036854775807) (h3 : -9223372036854775808 ≤ l) (h4 : l ≤ 9223372036854775807) :
    Calls Tryz.prog 52 #[.int .i64 t, .int .i64 l] w fun e w' => e = .returned (.int .i64 (plusZ t l)) ∧ w = w' := by
  have e : Hid (plusZ t l = if 4611686018427387904 < nearZ t + nearZ l then 4611686018427387904 else nearZ t + nearZ l) := Lib.hid rfl
  obtain ⟨z, hz⟩ : ∃ z, plusZ t l = z := ⟨_, rfl⟩
  rw [hz] at e ⊢
  clear hz
  go_enter Tryz.func52, Tryz.ntmps52
  go_wp2_with fail
  refine (refNear_any _ _ h1 h2).mono ?_
  rintro e w1 ⟨rfl, rfl⟩
  go_wp2_with fail
  refine (refNear_any _ _ h3 h4).mono ?_
  rintro e w1 ⟨rfl, rfl⟩
  have r1 := nearZ_range t
  have r2 := nearZ_range l
  generalize nearZ t = x at *
  generalize nearZ l = y at *
  have hw : IntKind.u64.wrap (x + y) = x + y := by rw [IntKind.wrap_u64]; omega
  by_cases h5 : 4611686018427387904 < x + y
  · have e2 : z = 4611686018427387904 := by rw [e.out, if_pos h5]
    subst e2
    clear e
    go_wp2
    go_ret
    exact ⟨rfl, rfl⟩
  · have e2 : z = x + y := by rw [e.out, if_neg h5]
    subst e2
    clear e
    go_wp2
    go_ret
    exact ⟨rfl, rfl⟩

end Go.Proofs.YtchogijdkagiiaaGreatDoor

namespace Go.Proofs.YtchogijdkagiiaaGreatDoor

/-- a spec -/
structure Sp where
  nodes : Int
  cores : Int
  gpus : Int
  tag : ByteArray
  whole : Bool
  long : Int
  prio : Int
def rightS (s : Sp) : Bool :=
  tagB s.tag && decide ((1 ≤ s.nodes ∧ s.nodes ≤ 64) ∧ (0 ≤ s.cores ∧ s.cores ≤ 64) ∧ (0 ≤ s.gpus ∧ s.gpus ≤ 64) ∧ ¬ (s.cores = 0 ∧ s.gpus = 0 ∧ s.whole = false) ∧ (1 ≤ s.long ∧ s.long ≤ 1099511627776) ∧ (-1000 ≤ s.prio ∧ s.prio ≤ 1000))
def endsS (s : Sp) (a : Int) : Int := plusZ a (if rightS s = true then s.long else 0)
theorem rightS_is {s : Sp} (h : rightS s = true) : tagB s.tag = true ∧ (1 ≤ s.nodes ∧ s.nodes ≤ 64) ∧ (0 ≤ s.cores ∧ s.cores ≤ 64) ∧ (0 ≤ s.gpus ∧ s.gpus ≤ 64) ∧ ¬ (s.cores = 0 ∧ s.gpus = 0 ∧ s.whole = false) ∧ (1 ≤ s.long ∧ s.long ≤ 1099511627776) ∧ (-1000 ≤ s.prio ∧ s.prio ≤ 1000) := by
  unfold rightS at h
  rwa [Bool.and_eq_true, decide_eq_true_eq] at h
theorem rightS_no {s : Sp} (h : ¬ (tagB s.tag = true ∧ (1 ≤ s.nodes ∧ s.nodes ≤ 64) ∧ (0 ≤ s.cores ∧ s.cores ≤ 64) ∧ (0 ≤ s.gpus ∧ s.gpus ≤ 64) ∧ ¬ (s.cores = 0 ∧ s.gpus = 0 ∧ s.whole = false) ∧ (1 ≤ s.long ∧ s.long ≤ 1099511627776) ∧ (-1000 ≤ s.prio ∧ s.prio ≤ 1000))) : rightS s = false := by
  cases hr : rightS s with
  | false => rfl
  | true => exact absurd (rightS_is hr) h
theorem rightS_mk {s : Sp} (h : tagB s.tag = true ∧ (1 ≤ s.nodes ∧ s.nodes ≤ 64) ∧ (0 ≤ s.cores ∧ s.cores ≤ 64) ∧ (0 ≤ s.gpus ∧ s.gpus ≤ 64) ∧ ¬ (s.cores = 0 ∧ s.gpus = 0 ∧ s.whole = false) ∧ (1 ≤ s.long ∧ s.long ≤ 1099511627776) ∧ (-1000 ≤ s.prio ∧ s.prio ≤ 1000)) : rightS s = true := by
  unfold rightS
  rwa [Bool.and_eq_true, decide_eq_true_eq]
end Go.Proofs.YtchogijdkagiiaaGreatDoor

namespace Go.Proofs.YtchogijdkagiiaaGreatDoor
open Go.RowKit

/-- a spec's value -/
def spV (s : Sp) : Value := .agg #[.int .i64 s.nodes, .int .i64 s.cores, .int .i64 s.gpus, .string s.tag, .bool s.whole, .int .i64 s.long, .int .i64 s.prio]
/-- a block with a spec's cells -/
def spO (s : Sp) : Obj := .cells #[.int .i64 s.nodes, .int .i64 s.cores, .int .i64 s.gpus, .string s.tag, .bool s.whole, .int .i64 s.long, .int .i64 s.prio] 27
/-- a spec as it may be handed in -/
structure SAsk (s : Sp) : Prop where
  nodes : I64 s.nodes
  cores : I64 s.cores
  gpus : I64 s.gpus
  tag : s.tag.size ≤ maxLen
  long : I64 s.long
  prio : I64 s.prio
/-- block g holds the spec s -/
structure BoxS (wr : World) (g : Nat) (s : Sp) : Prop where
  lt : g < wr.heap.size
  at' : wr.heap[g]? = some (spO s)
section
variable {w wr w' : World} {g : Nat} {s : Sp}
theorem BoxS.next (h : BoxS wr g s) (hb : Below wr.heap.size wr w') : BoxS w' g s := ⟨Nat.lt_of_lt_of_le h.lt hb.size, (hb.block _ h.lt).trans h.at'⟩
theorem box_new (w : World) (s : Sp) : BoxS (w.alloc (spO s)) w.heap.size s := ⟨by simp, heap_alloc_new w _⟩
theorem BoxS.c0 (h : BoxS wr g s) : wr.cell? ⟨g, 0, none⟩ = some (.int .i64 s.nodes) := (cell_of_row wr g 0 _ _ (0, 0) h.at').trans rfl
theorem BoxS.c1 (h : BoxS wr g s) : wr.cell? ⟨g, 1, none⟩ = some (.int .i64 s.cores) := (cell_of_row wr g 1 _ _ (0, 0) h.at').trans rfl
theorem BoxS.c2 (h : BoxS wr g s) : wr.cell? ⟨g, 2, none⟩ = some (.int .i64 s.gpus) := (cell_of_row wr g 2 _ _ (0, 0) h.at').trans rfl
theorem BoxS.c3 (h : BoxS wr g s) : wr.cell? ⟨g, 3, none⟩ = some (.string s.tag) := (cell_of_row wr g 3 _ _ (0, 0) h.at').trans rfl
theorem BoxS.c4 (h : BoxS wr g s) : wr.cell? ⟨g, 4, none⟩ = some (.bool s.whole) := (cell_of_row wr g 4 _ _ (0, 0) h.at').trans rfl
theorem BoxS.c5 (h : BoxS wr g s) : wr.cell? ⟨g, 5, none⟩ = some (.int .i64 s.long) := (cell_of_row wr g 5 _ _ (0, 0) h.at').trans rfl
theorem BoxS.c6 (h : BoxS wr g s) : wr.cell? ⟨g, 6, none⟩ = some (.int .i64 s.prio) := (cell_of_row wr g 6 _ _ (0, 0) h.at').trans rfl
end
end Go.Proofs.YtchogijdkagiiaaGreatDoor

namespace Go.Proofs.YtchogijdkagiiaaGreatDoor
open Go.ChangeShapes Go.WideShapes Go.ChangeAt Go.RowKit Go.Deep

set_option maxRecDepth 100000 in
theorem open_spec {H : Type} {enc : TypeId × Value → H} {W : World} {cs : List Value} {x : DataW H × List MemPlace} {fuel : Nat}
    (hl : cs.length = 7) (hf : DataW.trod enc Tryz.prog W 0 (fun _ => true) true fuel 27 cs = some x) :
    ∃ s : Sp, cs = [.int .i64 s.nodes, .int .i64 s.cores, .int .i64 s.gpus, .string s.tag, .bool s.whole, .int .i64 s.long, .int .i64 s.prio] ∧ SAsk s := by
  obtain ⟨ys, n', hn', hy, hlen, hyl, hfs⟩ := DataW.trod_struct Tryz.underlying27 hf
  obtain ⟨v0, v1, v2, v3, v4, v5, v6, rfl⟩ : ∃ v0 v1 v2 v3 v4 v5 v6, cs = [v0, v1, v2, v3, v4, v5, v6] := by
    match cs, hl with
    | [a, b, c, d, e, f, g], _ => exact ⟨a, b, c, d, e, f, g, rfl⟩
  have ci : Tryz.prog.cellsOf 3 = 1 := by kernel_rfl
  have cl : Tryz.prog.cellsOf 2 = 1 := by kernel_rfl
  have cs' : Tryz.prog.cellsOf 9 = 1 := by kernel_rfl
  have cb : Tryz.prog.cellsOf 4 = 1 := by kernel_rfl
  have h0 : DataW.trod enc Tryz.prog W 0 (fun _ => true) true n' 3 (List.take (Tryz.prog.cellsOf 3) [v0, v1, v2, v3, v4, v5, v6]) = ys[0]? := hfs 0 _ rfl
  have h1 : DataW.trod enc Tryz.prog W 0 (fun _ => true) true n' 3 (List.take (Tryz.prog.cellsOf 3) [v1, v2, v3, v4, v5, v6]) = ys[1]? := hfs 1 _ rfl
  have h2 : DataW.trod enc Tryz.prog W 0 (fun _ => true) true n' 3 (List.take (Tryz.prog.cellsOf 3) [v2, v3, v4, v5, v6]) = ys[2]? := hfs 2 _ rfl
  have h3 : DataW.trod enc Tryz.prog W 0 (fun _ => true) true n' 9 (List.take (Tryz.prog.cellsOf 9) [v3, v4, v5, v6]) = ys[3]? := hfs 3 _ rfl
  have h4 : DataW.trod enc Tryz.prog W 0 (fun _ => true) true n' 4 (List.take (Tryz.prog.cellsOf 4) [v4, v5, v6]) = ys[4]? := hfs 4 _ rfl
  have h5 : DataW.trod enc Tryz.prog W 0 (fun _ => true) true n' 2 (List.take (Tryz.prog.cellsOf 2) [v5, v6]) = ys[5]? := hfs 5 _ rfl
  have h6 : DataW.trod enc Tryz.prog W 0 (fun _ => true) true n' 3 (List.take (Tryz.prog.cellsOf 3) [v6]) = ys[6]? := hfs 6 _ rfl
  rw [ci] at h0 h1 h2 h6
  rw [cl] at h5
  rw [cs'] at h3
  rw [cb] at h4
  obtain ⟨y0, y1, y2, y3, y4, y5, y6, rfl⟩ : ∃ y0 y1 y2 y3 y4 y5 y6, ys = [y0, y1, y2, y3, y4, y5, y6] := by
    match ys, hyl with
    | [a, b, c, d, e, f, g], _ => exact ⟨a, b, c, d, e, f, g, rfl⟩
  obtain ⟨z0, e0, _, w0⟩ := DataW.trod_int Tryz.underlying3 h0
  obtain ⟨z1, e1, _, w1⟩ := DataW.trod_int Tryz.underlying3 h1
  obtain ⟨z2, e2, _, w2⟩ := DataW.trod_int Tryz.underlying3 h2
  obtain ⟨z3, e3, _, w3⟩ := DataW.trod_string Tryz.underlying9 h3
  obtain ⟨z4, e4, _⟩ := DataW.trod_bool Tryz.underlying4 h4
  obtain ⟨z5, e5, _, w5⟩ := DataW.trod_int Tryz.underlying2 h5
  obtain ⟨z6, e6, _, w6⟩ := DataW.trod_int Tryz.underlying3 h6
  simp at e0 e1 e2 e3 e4 e5 e6
  subst e0 e1 e2 e3 e4 e5 e6
  exact ⟨⟨z0, z1, z2, z3, z4, z5, z6⟩, rfl, ⟨i64_wf w0, i64_wf w1, i64_wf w2, w3, i64_wf w5, i64_wf w6⟩⟩
set_option maxRecDepth 100000 in
theorem open_S {H : Type} {enc : TypeId × Value → H} {W : World} {b0 : Nat} {v : Value} {d : DataW H} {ps : List MemPlace}
    (hval : Value.okWide Tryz.prog W .any b0 27 v) (h : DataW.Trod enc Tryz.prog W 0 (fun _ => true) true 27 v d ps) :
    ∃ s : Sp, v = .agg #[.int .i64 s.nodes, .int .i64 s.cores, .int .i64 s.gpus, .string s.tag, .bool s.whole, .int .i64 s.long, .int .i64 s.prio] ∧ SAsk s := by
  obtain ⟨fuel, hf⟩ := h
  obtain ⟨cs, rfl, hsz⟩ := okWide_struct Tryz.underlying27 hval
  have c7 : Tryz.prog.cellsOf 27 = 7 := by kernel_rfl
  obtain ⟨s, hs, ha⟩ := open_spec (by simpa [Value.cells] using hsz.trans c7) hf
  refine ⟨s, ?_, ha⟩
  congr 1
  apply Array.ext'
  simpa [Value.cells] using hs

end Go.Proofs.YtchogijdkagiiaaGreatDoor

namespace Go.Proofs.YtchogijdkagiiaaGreatDoor

end Go.Proofs.YtchogijdkagiiaaGreatDoor
