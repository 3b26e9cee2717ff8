/- Small words that all layers share. What the statements' frames of layers without listed variables share: a law's frame, from its walk to what the row says. Words for memory, for any kind of element: a slice whose elements take C cells each and read as things; an owned row of them that grows. General: nothing of the program stands here. An argument that is a slice, opened: of any elements of which it is known how one reads. General. Words for memory: a slice of int that reads as a list; no condition. Words for memory: a slice of int as a call's result; numbers that are asked. Arguments that are numbers, or lists of numbers, opened. Plain facts on sets of numbers from 0 to 255 kept as rising lists; no condition. -/
import Derived.Test.YtpoalgkgomljmaaDoorProg
import Derived.WalkKit
import Derived.OwnWalk
import Derived.Lib.Hide
import Derived.Deep.Draws
import Derived.Below
import Derived.KernelRfl
import Derived.Test.YtpoalgkgomljmaaDoorRows
import Derived.ProofKit
import Derived.OpenShut
import Derived.HandedShaped
import Derived.Deep.Slices
import Derived.Deep.Fields
import Derived.ChangeSame
import Derived.Deep.AppendLies
import Derived.Laws.AppendOwnNone
namespace Go.Proofs.YtpoalgkgomljmaaDoor
open Go.RowKit

/-- in an int's bounds -/
def I64 (x : Int) : Prop := -9223372036854775808 ≤ x ∧ x ≤ 9223372036854775807
theorem ret_bool {a b : Bool} (h : b = a) : Ending.returned (.bool a) = .returned (.bool b) := by rw [h]
theorem ret_int {k : IntKind} {a b : Int} (h : a = b) : Ending.returned (.int k a) = .returned (.int k b) := by rw [h]
theorem ret_num {k : IntKind} {a b : Int} (h : a = b) : Ending.returned (.int k a) = .returned (.int k b) := by rw [h]
theorem add_none (b o n : Nat) : (⟨b, o, none⟩ : Addr).add n = ⟨b, o + n, none⟩ := by unfold Addr.add; split <;> simp_all
theorem own_form {w : World} {base n : Nat} {e : TypeId} {C : Nat} {v : Value} {xs : List Value} (h : w.ownsRow base e C v n xs) : ∃ A c, v = .slice A n c := by
  rcases h.2 with ⟨hv, h0⟩ | ⟨g, cap, cur, hv, _⟩
  · subst h0; exact ⟨none, 0, hv⟩
  · exact ⟨_, _, hv⟩
theorem own_cap {w : World} {B n c C : Nat} {e : TypeId} {A : Option Addr} {xs : List Value} (h : w.ownsRow B e C (.slice A n c) n xs) : n ≤ c := by
  rcases h.2 with ⟨hv, h0⟩ | ⟨g, cap, cur, hv, _, _, hcap, _⟩
  · omega
  · injection hv with _ _ h3
    omega
theorem own_base {w : World} {B B' n C : Nat} {e : TypeId} {v : Value} {xs : List Value} (h : w.ownsRow B e C v n xs) (hB : B' ≤ B) : w.ownsRow B' e C v n xs := by
  refine ⟨h.1, h.2.imp id ?_⟩
  rintro ⟨g, cap, cur, h1, h2, h3⟩
  exact ⟨g, cap, cur, h1, Nat.le_trans hB h2, h3⟩
theorem info_parts {t : TypeId} {z : Value} {s b : Nat} (h : (Tryd.prog.info? t).map (fun i => (i.zero, i.size, i.bytes)) = some (some z, s, b)) : ∃ i, Tryd.prog.info? t = some i ∧ i.zero = some z ∧ i.size = s ∧ i.bytes = b := by
  cases hi : Tryd.prog.info? t with
  | none => rw [hi] at h; cases h
  | some i =>
    rw [hi] at h
    simp only [Option.map_some, Option.some.injEq, Prod.mk.injEq] at h
    exact ⟨i, rfl, h.1, h.2.1, h.2.2⟩

theorem bel_drew (w : World) (q : Nat) : Below w.heap.size w (w.drewN q) := ⟨rfl, rfl, rfl, Nat.le_refl _, fun _ _ => rfl⟩
theorem bel_und {w w' : World} (h : Below w.drew.heap.size w.drew w') : Below w.heap.size w w' := ⟨h.os, h.tape, h.output, h.size, h.block⟩
theorem bel_more {B : Nat} {a w : World} (h : Below B a w) (q : Nat) : Below B a (w.drewN q) := ⟨h.os, h.tape, h.output, h.size, h.block⟩

theorem bel_same {P : Ending → Prop} {F : FuncId} {args : Array Value} {w : World} (h : Calls Tryd.prog F args w fun e w' => P e ∧ w = w') : Calls Tryd.prog F args w fun e w' => P e ∧ Below w.heap.size w w' :=
  h.mono fun _ _ ⟨h1, h2⟩ => ⟨h1, by rw [← h2]; exact Below.refl _ _⟩


theorem calls_pair {P : Program} {f : FuncId} {args : Array Value} {w : World} {r : Int × Int} {x y : Int} (h : Calls P f args w fun e w' => e = .returned (.tuple #[.int .i64 r.1, .int .i64 r.2]) ∧ Below w.heap.size w w') (e : r = (x, y)) :
    Calls P f args w fun e w' => e = .returned (.tuple #[.int .i64 x, .int .i64 y]) ∧ Below w.heap.size w w' := by
  subst e; exact h
theorem calls_first {P : Program} {f : FuncId} {args : Array Value} {w : World} {r : Int × Bool} {x : Int} {y : Bool} (h : Calls P f args w fun e w' => e = .returned (.tuple #[.int .i64 r.1, .bool r.2]) ∧ Below w.heap.size w w') (e : r = (x, y)) :
    Calls P f args w fun e w' => e = .returned (.tuple #[.int .i64 x, .bool y]) ∧ Below w.heap.size w w' := by
  subst e; exact h
theorem calls_int {P : Program} {f : FuncId} {args : Array Value} {w : World} {r x : Int} (h : Calls P f args w fun e w' => e = .returned (.int .i64 r) ∧ Below w.heap.size w w') (e : r = x) :
    Calls P f args w fun e w' => e = .returned (.int .i64 x) ∧ Below w.heap.size w w' := by
  subst e; exact h
theorem calls_bool {P : Program} {f : FuncId} {args : Array Value} {w : World} {r x : Bool} (h : Calls P f args w fun e w' => e = .returned (.bool r) ∧ Below w.heap.size w w') (e : r = x) :
    Calls P f args w fun e w' => e = .returned (.bool x) ∧ Below w.heap.size w w' := by
  subst e; exact h

theorem int_info : (Tryd.prog.info? 3).map (fun i => (i.zero, i.size, i.bytes)) = some (some (.int .i64 0), 1, 8) := by kernel_rfl

theorem own_empty2 (w : World) (e : TypeId) : (w.alloc (.cells #[] e)).ownsRow w.heap.size e 2 (.slice (some ⟨w.heap.size, 0, none⟩) 0 0) 0 [] :=
  World.ownsRow_made w #[] 0 (Nat.le_refl _) (Nat.zero_le _) rfl
theorem own_nil {w : World} {B n c C : Nat} {e : TypeId} {A : Option Addr} {xs : List Value} (h : w.ownsRow B e C (.slice A n c) n xs) : A = none → c = 0 := by
  intro hA
  subst hA
  rcases h.2 with ⟨hv, _⟩ | ⟨g, cap, cur, hv, _⟩
  · injection hv
  · injection hv with hv
    cases hv

end Go.Proofs.YtpoalgkgomljmaaDoor

namespace Go.Proofs.YtpoalgkgomljmaaDoor
open Go.ChangeShapes Go.WideShapes Go.ChangeAt Go.RowKit Go.Deep

theorem own_knob : ownKnob Tryd.prog.godebug = none := by kernel_rfl
theorem laid_out : laidOutB Tryd.prog = true := by kernel_rfl

section
variable {H : Type} {enc : TypeId × Value → H} {P : Program}
/-- the arguments read as they did, in a world that keeps all that was there -/
theorem below_trodAll {W W' : World} (hlo : laidOutB P = true) (hb : Below W.heap.size W W') : ∀ {ts : List TypeId} {vs : List Value} {ds : List (DataW H)} {ps : List MemPlace},
    (∀ t ∈ ts, P.readableRec t = true ∧ t < P.types.size) → DataW.TrodAll enc P W 0 (fun _ => true) true ts vs ds ps → (∀ x ∈ ps, x.block < W.heap.size) → DataW.TrodAll enc P W' 0 (fun b => decide (b < W.heap.size)) true ts vs ds ps
  | [], [], [], _, _, h, _ => h
  | t :: ts, v :: vs, d :: ds, ps, ht, h, hlt => by
    obtain ⟨p, q, h1, h2, rfl⟩ := h
    exact ⟨p, q, Below.trod hlo (ht t (by simp)).1 (ht t (by simp)).2 h1 hb (fun x hx => hlt x (by simp [hx])), below_trodAll hlo hb (fun u hu => ht u (by simp [hu])) h2 (fun x hx => hlt x (by simp [hx])), rfl⟩
  | [], [], _ :: _, _, _, h, _ => h.elim
  | [], _ :: _, _, _, _, h, _ => h.elim
  | _ :: _, [], _, _, _, h, _ => h.elim
  | _ :: _, _ :: _, [], _, _, h, _ => h.elim
/-- 'it returns true, and the arguments read as they did', from what the walk leaves -/
theorem post_true {f : Func} {s : ChangeSpec} {apart : Bool} {W W' : World} {args : Array Value} {ds gs : List (DataW H)} {before : List MemPlace} {tb : TypeId}
    (hlo : laidOutB P = true) (htb : P.underlying tb = some .bool) (hrt : f.resultTypes = #[tb]) (hv : s.vars = [])
    (hrows : ∀ t ∈ f.params.toList, P.readableRec t = true ∧ t < P.types.size)
    (hs : s.fn H (ds ++ gs) = { results := [.lit (.bool true)], args := ds })
    (hW : DataW.Whole enc P f.params.toList s.vars apart W args.toList ds gs before) (hb : Below W.heap.size W W') :
    s.post enc P f apart true false false W args (.bool true) W' := by
  have hW' := hW
  obtain ⟨p, q, hA, hV, rfl, hz, hn⟩ := hW
  rw [hv] at hV
  obtain ⟨rfl, rfl⟩ := trodVars_none hV
  refine ⟨ds, [], _, [], p, [], hW', ?_, ?_, ?_, hb.frame _, fun h => by cases h⟩
  · rw [hs, hrt]
    exact trodAll_mk1 (shut_bool htb true)
  · rw [hs]
    exact below_trodAll hlo hb hrows hA fun x hx => by simpa using hW'.lt x (by simpa using hx)
  · rw [hs, hv]
    rfl
/-- an argument that is a slice of structs of one-cell fields -/
theorem open_slice_fields {w : World} {base : Nat} {spare : Nat → Bool} {held : Bool} {t e : TypeId} {fs : Array Field} {fuel : Nat} {cs : List Value} {x : DataW H × List MemPlace} (ht : P.underlying t = some (.slice e)) (he : P.underlying e = some (.struct fs))
    (hone : oneCellFields P fs = true) (hC : P.cellsOf e = fs.size) (h : DataW.trod enc P w base spare held fuel t cs = some x) :
    (cs = [.slice none 0 0] ∧ x = (.nil, [])) ∨
    ∃ (a : Addr) (len cap m : Nat), cs = [.slice (some a) len cap] ∧ base ≤ a.block ∧ len ≤ cap ∧ cap ≤ maxLen ∧ m = (if spare a.block then cap else len) ∧
      ∀ i, i < m → ∃ (n : Nat), ∀ (j : Nat) (f : Field), fs[j]? = some f → ∃ (v : Value) (y : DataW H × List MemPlace), w.cell? (a.add (i * fs.size + j)) = some v ∧ DataW.trod enc P w base spare held n f.type [v] = some y := by
  rcases open_slice ht h with h0 | ⟨a, len, cap, m, n, D, Pl, hcs, hb, hl, hm, hmm, hx, hi⟩
  · exact .inl h0
  · refine .inr ⟨a, len, cap, m, hcs, hb, hl, hm, hmm, fun i him => ?_⟩
    obtain ⟨cs', hc, ht'⟩ := hi i him
    rw [hC] at hc
    obtain ⟨ys, n', hn', hy, hlen, hyl, hf⟩ := DataW.trod_struct he ht'
    obtain ⟨_, hcl, hat⟩ := World.cells?_some hc
    refine ⟨n', fun j f hj => ?_⟩
    obtain ⟨ho, hk⟩ := hone_of hone j f hj
    have hjl : j < fs.size := (Array.getElem?_eq_some_iff.1 hj).1
    have hcell := hat j hjl
    have hv : cs'[j]? = some (cs'[j]'(by omega)) := List.getElem?_eq_getElem (by omega)
    have h1 := hf j f hj
    rw [ho, hk] at h1
    have hone' : (cs'.drop j).take 1 = [cs'[j]'(by omega)] := by
      rw [List.drop_eq_getElem_cons (by omega)]
      rfl
    rw [hone'] at h1
    have hys : ys[j]? = some (ys[j]'(by omega)) := List.getElem?_eq_getElem (by omega)
    refine ⟨_, _, ?_, h1.trans hys⟩
    rw [← Go.Deep.add_add, hcell, hv]
end

set_option maxRecDepth 100000 in
/-- a law's frame: from its walk to what the row says -/
theorem lifted_true {os : Os} {H : Type} {enc : TypeId × Value → H} {f : FuncId} {fn : Func} {s : ChangeSpec} {conds : List PathCond} {apart : Bool}
    (started : os.Started) (noInit : Tryd.prog.inits.idxOf? f = none) (hfn : Tryd.prog.funcs[f]? = some fn) (hrt : fn.resultTypes = #[4]) (hv : s.vars = [])
    (hrows : ∀ t ∈ fn.params.toList, Tryd.prog.readableRec t = true ∧ t < Tryd.prog.types.size)
    (witness : ∃ (w : World) (tape : Tape) (i : Input), w.os = os ∧ (w.forCall tape i).Shaped Tryd.checked.prog ∧ i.vars = [] ∧ Input.okWide Tryd.checked.prog (w.forCall tape i) .any w.heap.size f i ∧
      s.pre6 enc Tryd.checked.prog fn conds apart (w.forCall tape i).memory i.args ∧ ({} : Assume).holds Tryd.checked.prog (lone (Frame.enter Tryd.checked.prog f i.args .normal) [] (w.forCall tape i)))
    (walk : ∀ (W : World) (base : Nat) (args : Array Value) (ds : List (DataW H)) (p : List MemPlace),
      (∀ (j : Nat) t v, fn.params[j]? = some t → args[j]? = some v → Value.okWide Tryd.prog W .any base t v) →
      DataW.TrodAll enc Tryd.prog W 0 (fun _ => true) true fn.params.toList args.toList ds p →
      s.fn H ds = { results := [.lit (.bool true)], args := ds } ∧ Calls Tryd.prog f args W fun e W' => e = .returned (.bool true) ∧ Below W.heap.size W W') :
    ReturnsInHanded {} Tryd.checked os f .any (s.pre6 enc Tryd.prog fn conds apart) (s.post enc Tryd.prog fn apart true false false) := by
  refine returnsInHanded_of_change_shaped (C := Tryd.checked) own_knob started noInit hfn witness ?_
  intro W base args ds gs before hval hW _ _ _ _
  have hW' := hW
  obtain ⟨p, q, hA, hV, rfl, _, _⟩ := hW
  rw [hv] at hV
  obtain ⟨rfl, rfl⟩ := trodVars_none hV
  obtain ⟨hs, hw⟩ := walk W base args ds p hval hA
  refine hw.mono fun e W' ⟨he, hb⟩ => ?_
  subst he
  exact ⟨_, rfl, post_true laid_out Tryd.underlying4 hrt hv hrows (by simpa using hs) hW' hb⟩

end Go.Proofs.YtpoalgkgomljmaaDoor

namespace Go.Proofs.YtpoalgkgomljmaaDoor
open Go.RowKit

/-- how an element reads: in a world, with all that it reaches in blocks that are 'ok', of its cells -/
abbrev Elem (α : Type) := World → (Nat → Prop) → α → List Value → Prop
/-- an element reads the same where its blocks are the same -/
structure Steady {α : Type} (E : Elem α) : Prop where
  keep : ∀ {w w' : World} {ok ok' : Nat → Prop} {x : α} {vs : List Value}, E w ok x vs → (∀ b, ok b → w'.heap[b]? = w.heap[b]?) → (∀ b, ok b → ok' b) → E w' ok' x vs

/-- '.slice A n c' reads as xs: elements of C cells -/
def RN {α : Type} (E : Elem α) (C : Nat) (w : World) (ok : Nat → Prop) (A : Option Addr) (n : Nat) (xs : List α) : Prop :=
  xs.length = n ∧ (0 < n → ∃ b off, A = some ⟨b, off, none⟩ ∧ ok b ∧
    ∀ j x, xs[j]? = some x → ∃ vs, vs.length = C ∧ (∀ i v, vs[i]? = some v → w.cell? ⟨b, off + (j * C + i), none⟩ = some v) ∧ E w ok x vs)
/-- the blocks below B -/
def Lt (B : Nat) : Nat → Prop := (· < B)

section
variable {α : Type} {E : Elem α} {C : Nat} {w w' : World} {ok ok' : Nat → Prop} {A : Option Addr} {n : Nat} {xs : List α}
theorem RN.nil : RN E C w ok A 0 [] := ⟨rfl, fun h => absurd h (by omega)⟩
theorem RN.keep (hE : Steady E) (h : RN E C w ok A n xs) (hk : ∀ b, ok b → w'.heap[b]? = w.heap[b]?) (ho : ∀ b, ok b → ok' b) : RN E C w' ok' A n xs :=
  ⟨h.1, fun hn => by
    obtain ⟨b, off, e, hb, hc⟩ := h.2 hn
    refine ⟨b, off, e, ho b hb, fun j x hx => ?_⟩
    obtain ⟨vs, h1, h2, h3⟩ := hc j x hx
    exact ⟨vs, h1, fun i v hv => (World.cell?_of_block (hk b hb)).trans (h2 i v hv), hE.keep h3 hk ho⟩⟩
theorem RN.below {B : Nat} (hE : Steady E) (h : RN E C w (Lt B) A n xs) (hb : Below B w w') : RN E C w' (Lt B) A n xs := h.keep hE (fun b hb' => hb.block b hb') (fun _ h => h)
theorem RN.next (hE : Steady E) (h : RN E C w (Lt w.heap.size) A n xs) (hb : Below w.heap.size w w') : RN E C w' (Lt w'.heap.size) A n xs :=
  h.keep hE (fun b hb' => hb.block b hb') (fun b (h : b < w.heap.size) => Nat.lt_of_lt_of_le h hb.size)
theorem RN.drewN (h : RN E C w ok A n xs) (hE : Steady E) (k : Nat) : RN E C (w.drewN k) ok A n xs := h.keep hE (fun _ _ => rfl) (fun _ h => h)
/-- the k-th element -/
theorem RN.at (h : RN E C w ok A n xs) {k : Nat} {x : α} (hk : xs[k]? = some x) : ∃ b off vs, A = some ⟨b, off, none⟩ ∧ ok b ∧ vs.length = C ∧ (∀ i v, vs[i]? = some v → w.cell? ⟨b, off + (k * C + i), none⟩ = some v) ∧ E w ok x vs := by
  have hl := (List.getElem?_eq_some_iff.1 hk).1
  obtain ⟨b, off, e, hb, hc⟩ := h.2 (by have := h.1; omega)
  obtain ⟨vs, h1, h2, h3⟩ := hc k x hk
  exact ⟨b, off, vs, e, hb, h1, h2, h3⟩
end

/-- an element that is itself a slice: one cell -/
def ESl {α : Type} (E : Elem α) (C : Nat) : Elem (List α) := fun w ok xs vs => ∃ A m c, vs = [.slice A m c] ∧ RN E C w ok A m xs ∧ (A = none → c = 0) ∧ m ≤ c ∧ m ≤ maxLen
theorem ESl.steady {α : Type} {E : Elem α} (hE : Steady E) (C : Nat) : Steady (ESl E C) :=
  ⟨fun ⟨A, m, c, h1, h2, h3⟩ hk ho => ⟨A, m, c, h1, h2.keep hE hk ho, h3⟩⟩

/-- an owned row that reads as xs, in a world that keeps all that was there in w -/
def ON {α : Type} (E : Elem α) (C : Nat) (t : TypeId) (w : World) (v : Value) (xs : List α) (wr : World) : Prop :=
  ∃ fl : List Value, wr.ownsRow w.heap.size t C v xs.length fl ∧ Below w.heap.size w wr ∧
    ∀ j x, xs[j]? = some x → E wr (fun b => b < wr.heap.size ∧ v.ownBlock ≠ some b) x ((fl.drop (j * C)).take C)
section
variable {α : Type} {E : Elem α} {C : Nat} {t : TypeId} {w w1 w2 wr : World} {v v' : Value} {xs : List α}
theorem ON.nil (w : World) : ON E C t w (.slice none 0 0) [] w := ⟨[], by simpa using World.ownsRow_nil w w.heap.size t C, Below.refl _ _, fun j x h => by simp at h⟩
/-- what makes memory, and changes nothing that was there, leaves the row as it is -/
theorem ON.next (hE : Steady E) (h : ON E C t w v xs wr) (hb : Below wr.heap.size wr w1) : ON E C t w v xs w1 := by
  obtain ⟨fl, h1, h2, h3⟩ := h
  refine ⟨fl, ?_, h2.trans (hb.mono h2.size), fun j x hx => hE.keep (h3 j x hx) (fun b hb' => hb.block b hb'.1) (fun b hb' => ⟨Nat.lt_of_lt_of_le hb'.1 hb.size, hb'.2⟩)⟩
  refine ⟨h1.1, h1.2.imp id ?_⟩
  rintro ⟨g, cap, cur, e1, e2, e3, e4⟩
  exact ⟨g, cap, cur, e1, e2, (hb.block g (Array.getElem?_eq_some_iff.1 e3).1).trans e3, e4⟩
theorem ON.drew (hE : Steady E) (h : ON E C t w v xs wr) (q : Nat) : ON E C t w v xs (wr.drewN q) := h.next hE ⟨rfl, rfl, rfl, Nat.le_refl _, fun _ _ => rfl⟩
theorem ON.below (h : ON E C t w v xs wr) : Below w.heap.size w wr := let ⟨_, _, h2, _⟩ := h; h2
theorem ON.form (h : ON E C t w v xs wr) : ∃ A c, v = .slice A xs.length c ∧ (A = none → c = 0) ∧ xs.length ≤ c := by
  obtain ⟨fl, h1, _⟩ := h
  rcases h1.2 with ⟨hv, h0⟩ | ⟨g, cap, cur, hv, _, _, hc, _⟩
  · exact ⟨none, 0, by rw [hv, h0], fun _ => rfl, by omega⟩
  · exact ⟨_, cap, hv, (fun e => by cases e), hc⟩
/-- one element more: it was laid in a block of its own, and appended -/
theorem ON.snoc (hE : Steady E) (h : ON E C t w v xs wr) {x : α} {vs : List Value} {o : Obj} {fl : List Value} {g cap : Nat}
    (hfl : wr.ownsRow w.heap.size t C v xs.length fl) (hx : E wr (fun b => b < wr.heap.size ∧ v.ownBlock ≠ some b) x vs) (hvs : vs.length = C)
    (hold : ∀ j y, xs[j]? = some y → E wr (fun b => b < wr.heap.size ∧ v.ownBlock ≠ some b) y ((fl.drop (j * C)).take C))
    (hown' : w2.ownsRow w.heap.size t C (.slice (some ⟨g, 0, none⟩) (xs.length + 1) cap) (xs.length + 1) (fl ++ vs)) (hgrow : (wr.alloc o).grownBy w2 v.ownBlock)
    (hat : v.ownBlock = some g ∨ wr.heap.size ≤ g) : ON E C t w (.slice (some ⟨g, 0, none⟩) (xs.length + 1) cap) (xs ++ [x]) w2 := by
  have hB := h.below
  have hsz : wr.heap.size ≤ w2.heap.size := by have := hgrow.size; simp at this; omega
  have hkeep : ∀ b, (b < wr.heap.size ∧ v.ownBlock ≠ some b) → w2.heap[b]? = wr.heap[b]? := fun b hb =>
    (hgrow.block b (by simp; omega) (fun e => hb.2 e.symm)).trans (Below.heap_alloc wr o b hb.1)
  have hok : ∀ b, (b < wr.heap.size ∧ v.ownBlock ≠ some b) → (b < w2.heap.size ∧ (Value.slice (some ⟨g, 0, none⟩) (xs.length + 1) cap).ownBlock ≠ some b) := fun b hb =>
    ⟨by omega, fun e => by
      have e' : g = b := by simpa [Value.ownBlock] using e
      subst e'
      rcases hat with h' | h'
      · exact hb.2 h'
      · omega⟩
  refine ⟨fl ++ vs, by rw [List.length_append]; exact hown', (hB.alloc hB.size o).grown hgrow (by have := hB.size; simp; omega) (fun j hj => (hfl.lt j hj).1), fun j y hy => ?_⟩
  have hfll := hfl.1
  rcases Nat.lt_trichotomy j xs.length with hj | hj | hj
  · rw [List.getElem?_append_left hj] at hy
    have e := hE.keep (hold j y hy) hkeep hok
    have hlen : j * C + C ≤ fl.length := by rw [hfll, ← Nat.succ_mul]; exact Nat.mul_le_mul_right C hj
    rw [List.drop_append_of_le_length (by omega), List.take_append_of_le_length (by rw [List.length_drop]; omega)]
    exact e
  · subst hj
    rw [List.getElem?_append_right (Nat.le_refl _)] at hy
    simp at hy
    subst hy
    rw [← hfll, List.drop_append_of_le_length (Nat.le_refl _), List.drop_length, List.nil_append, List.take_of_length_le (by omega)]
    exact hE.keep hx hkeep hok
  · rw [List.getElem?_eq_none (by rw [List.length_append]; simp; omega)] at hy
    cases hy
/-- 'out = append(out, x)' of an owned row of elements: x has been laid into a block of its own -/
theorem wpList_append_ON {P : Program} {ops : Array Oper} {rest : List Oper} {o : Oper} {a : Act} {Q : Exit → Act → World → Prop} (hgd : o.guard = none) (s x : Operand) (ty : TypeId)
    (ho : o.op = .call { callee := .builtin .append, args := #[s, x], argTypes := #[ty, ty] })
    (hE : Steady E) (h : ON E C t w v xs wr) (i : TypeInfo) (z : Value) (bytes : Nat) (ht : P.underlying ty = some (.slice t)) (hi : P.info? t = some i) (hz : i.zero = some z)
    (hsize : i.size = C) (hby : i.bytes = bytes) (hzs : z.cells.size = C) (hsz : 0 < C)
    (hs : a.eval s = v) (x0 : α) (cs : Array Value) (hx : a.eval x = .slice (some ⟨wr.heap.size, 0, none⟩) 1 1) (hl : cs.toList.length = C) (h1 : ∀ u ∈ cs.toList, u.oneCell' = true)
    (he : E wr (fun b => b < wr.heap.size ∧ v.ownBlock ≠ some b) x0 cs.toList)
    (h63 : xs.length + 1 ≤ maxLen) (hbytes : (xs.length + 1) * bytes ≤ 140737488355328)
    (hk : ∀ v' w', ON E C t w v' (xs ++ [x0]) w' → wpList P ops Q rest (a.put o.dst v') w') : wpList P ops Q (o :: rest) a (wr.alloc (.cells cs t)) := by
  have hB := h.below
  obtain ⟨fl, h2, _, h4⟩ := id h
  refine wpList_append_lies (wr.alloc (.cells cs t)) hgd s x ty ho w.heap.size t i z C bytes ht hi hz hsize hby hzs hsz v xs.length fl hs (h2.alloc _) ⟨wr.heap.size, 0, none⟩ 1 1 cs.toList hx (by rw [hl]; omega)
    (World.news_of_block (cs := cs) (t := t) (fr := (0, 0)) (heap_alloc_new wr _)) h1 (by omega) h63 hbytes (by have := hB.size; simp; omega) _ rfl ?_
  intro g cap w2 hown' hgrow hat hlt
  exact hk _ _ (h.snoc hE h2 he hl h4 hown' hgrow (hat.imp id (fun e => by rw [e]; simp)))
/-- an owned row reads as a slice -/
theorem ON.reads (hE : Steady E) (hC : 0 < C) (h : ON E C t w v xs wr) {A : Option Addr} {n c : Nat} (hv : v = .slice A n c) : RN E C wr (Lt wr.heap.size) A n xs := by
  obtain ⟨fl, h1, h2, h3⟩ := h
  rcases h1.2 with ⟨hv', h0⟩ | ⟨g, cap, cur, hv', _, hh, hc, _⟩
  · rw [hv] at hv'
    injection hv' with e1 e2 e3
    subst e1 e2
    have : xs = [] := List.eq_nil_of_length_eq_zero h0
    subst this
    exact RN.nil
  · have hg : v.ownBlock = some g := by rw [hv']; rfl
    have hcells := h1.cells hg
    rw [hv] at hv'
    injection hv' with e1 e2 e3
    subst e1 e2
    refine ⟨rfl, fun hn => ⟨g, 0, rfl, (Array.getElem?_eq_some_iff.1 hh).1, fun j x hx => ?_⟩⟩
    have hj := (List.getElem?_eq_some_iff.1 hx).1
    have hlen : j * C + C ≤ fl.length := by rw [h1.1, ← Nat.succ_mul]; exact Nat.mul_le_mul_right C hj
    refine ⟨(fl.drop (j * C)).take C, by rw [List.length_take, List.length_drop]; omega, fun i u hu => ?_, hE.keep (h3 j x hx) (fun _ _ => rfl) (fun b hb => hb.1)⟩
    have hi : i < C := by
      have := (List.getElem?_eq_some_iff.1 hu).1
      rw [List.length_take, List.length_drop] at this
      omega
    rw [List.getElem?_take_of_lt hi, List.getElem?_drop] at hu
    have := hcells (j * C + i) u hu
    have ha : (⟨g, 0, none⟩ : Addr).add (j * C + i) = ⟨g, 0 + (j * C + i), none⟩ := by unfold Addr.add; split <;> simp_all
    rw [ha] at this
    exact this
end

end Go.Proofs.YtpoalgkgomljmaaDoor

namespace Go.Proofs.YtpoalgkgomljmaaDoor
open Go.ChangeShapes Go.WideShapes Go.ChangeAt Go.RowKit Go.Deep

theorem i64_wf {x : Int} (h : (Lit.int .i64 x).wf = true) : I64 x := by
  have h1 : IntKind.i64.min = -9223372036854775808 := rfl
  have h2 : IntKind.i64.max = 9223372036854775807 := rfl
  simp only [Lit.wf, Bool.and_eq_true, decide_eq_true_eq] at h
  unfold I64
  omega
theorem u8_wf {x : Int} (h : (Lit.int .u8 x).wf = true) : 0 ≤ x ∧ x ≤ 255 := by
  have h1 : IntKind.u8.min = 0 := rfl
  have h2 : IntKind.u8.max = 255 := rfl
  simp only [Lit.wf, Bool.and_eq_true, decide_eq_true_eq] at h
  omega
theorem u16_wf {x : Int} (h : (Lit.int .u16 x).wf = true) : 0 ≤ x ∧ x ≤ 65535 := by
  have h1 : IntKind.u16.min = 0 := rfl
  have h2 : IntKind.u16.max = 65535 := rfl
  simp only [Lit.wf, Bool.and_eq_true, decide_eq_true_eq] at h
  omega
theorem u32_wf {x : Int} (h : (Lit.int .u32 x).wf = true) : 0 ≤ x ∧ x ≤ 4294967295 := by
  have h1 : IntKind.u32.min = 0 := rfl
  have h2 : IntKind.u32.max = 4294967295 := rfl
  simp only [Lit.wf, Bool.and_eq_true, decide_eq_true_eq] at h
  omega
theorem list_of_each {α : Type} {Q : Nat → α → Prop} : ∀ (n : Nat), (∀ i, i < n → ∃ a, Q i a) → ∃ xs : List α, xs.length = n ∧ ∀ j x, xs[j]? = some x → Q j x
  | 0, _ => ⟨[], rfl, fun j x h => by simp at h⟩
  | n + 1, h => by
    obtain ⟨xs, h1, h2⟩ := list_of_each n (fun i hi => h i (by omega))
    obtain ⟨a, ha⟩ := h n (by omega)
    refine ⟨xs ++ [a], by simp [h1], fun j x hj => ?_⟩
    rcases Nat.lt_trichotomy j n with hlt | heq | hgt
    · rw [List.getElem?_append_left (by omega)] at hj
      exact h2 j x hj
    · subst heq
      rw [List.getElem?_append_right (by omega), h1] at hj
      simp at hj
      subst hj
      exact ha
    · rw [List.getElem?_eq_none (by simp; omega)] at hj
      cases hj
theorem open_RN {H : Type} {enc : TypeId × Value → H} {α : Type} {E : Elem α} {t e : TypeId} {C : Nat} {W : World} {cs : List Value} {x : DataW H × List MemPlace} {fuel : Nat}
    (ht : Tryd.prog.underlying t = some (.slice e)) (hC : Tryd.prog.cellsOf e = C) (hC0 : 0 < C)
    (hread : ∀ (n : Nat) (cs : List Value) (y : DataW H × List MemPlace), cs.length = C → DataW.trod enc Tryd.prog W 0 (fun _ => true) true n e cs = some y → ∃ a : α, E W (Lt W.heap.size) a cs)
    (h : DataW.trod enc Tryd.prog W 0 (fun _ => true) true fuel t cs = some x) :
    ∃ A n c xs, cs = [.slice A n c] ∧ RN E C W (Lt W.heap.size) A n xs ∧ (A = none → c = 0) ∧ n ≤ c ∧ n ≤ maxLen := by
  rcases open_slice ht h with ⟨h1, _⟩ | ⟨a, len, cap, m, n, D, Pl, h1, _, hl, hm, hmm, _, hi⟩
  · exact ⟨none, 0, 0, [], h1, RN.nil, fun _ => rfl, Nat.le_refl _, Nat.zero_le _⟩
  · simp only [if_true] at hmm
    subst hmm
    rw [hC] at hi
    obtain ⟨xs, hx1, hx2⟩ := list_of_each (Q := fun i (y : α) => ∃ vs : List Value, vs.length = C ∧ (∀ k v, vs[k]? = some v → W.cell? (a.add (i * C + k)) = some v) ∧ E W (Lt W.heap.size) y vs) len (by
      intro i hil
      obtain ⟨vs, hc, htr⟩ := hi i (by omega)
      obtain ⟨_, hcl, hat⟩ := World.cells?_some hc
      obtain ⟨y, hy⟩ := hread _ _ _ hcl htr
      refine ⟨y, vs, hcl, fun k v hv => ?_, hy⟩
      have hk : k < C := by rw [← hcl]; exact (List.getElem?_eq_some_iff.1 hv).1
      rw [← add_add, hat k hk, hv])
    refine ⟨some a, len, _, xs, h1, ⟨hx1, fun hn => ?_⟩, (fun e => by cases e), hl, by omega⟩
    obtain ⟨y0, hy0⟩ : ∃ y, xs[0]? = some y := ⟨_, List.getElem?_eq_getElem (by omega)⟩
    obtain ⟨vs0, hl0, hc0, _⟩ := hx2 0 y0 hy0
    have h0 := hc0 0 _ (List.getElem?_eq_getElem (by omega))
    obtain ⟨b, off, spot⟩ := a
    have hs : spot = none := by simpa [Addr.add] using World.cell?_spot h0
    subst hs
    have hb : b < W.heap.size := by simpa [Addr.add] using World.block_lt_of_cell? W _ h0
    refine ⟨b, off, rfl, hb, fun j y hj => ?_⟩
    obtain ⟨vs, k1, k2, k3⟩ := hx2 j y hj
    refine ⟨vs, k1, fun i v hv => ?_, k3⟩
    have := k2 i v hv
    rwa [add_none] at this

end Go.Proofs.YtpoalgkgomljmaaDoor

namespace Go.Proofs.YtpoalgkgomljmaaDoor
open Go.RowKit

/-- the slice value '.slice A n c' holds the numbers xs, below block B -/
def RI (w : World) (B : Nat) (A : Option Addr) (n : Nat) (xs : List Int) : Prop :=
  xs.length = n ∧ (0 < n → ∃ b off, A = some ⟨b, off, none⟩ ∧ b < B ∧ ∀ j, j < n → w.cell? ⟨b, off + j, none⟩ = some (.int .i64 (xs.getD j 0)))

section
variable {w w' : World} {B B' n : Nat} {A : Option Addr} {xs : List Int}
theorem RI.nil : RI w B A 0 [] := ⟨rfl, fun h => absurd h (by omega)⟩
theorem RI.keep (h : RI w B A n xs) (hk : ∀ p : Addr, p.block < B → w'.cell? p = w.cell? p) : RI w' B A n xs :=
  ⟨h.1, fun hn => by
    obtain ⟨b, off, e, hb, hc⟩ := h.2 hn
    exact ⟨b, off, e, hb, fun j hj => (hk _ hb).trans (hc j hj)⟩⟩
theorem RI.more (h : RI w B A n xs) (hB : B ≤ B') : RI w B' A n xs :=
  ⟨h.1, fun hn => by
    obtain ⟨b, off, e, hb, hc⟩ := h.2 hn
    exact ⟨b, off, e, by omega, hc⟩⟩
theorem RI.below (h : RI w B A n xs) (hb : Below B w w') : RI w' B A n xs := h.keep fun _ hp => hb.cell hp
theorem RI.drewN (h : RI w B A n xs) (k : Nat) : RI (w.drewN k) B A n xs := h
theorem RI.of_own {base : Nat} {e : TypeId} {c : Nat} (h : w.ownsRow base e 1 (.slice A n c) n (xs.map (Value.int .i64))) : RI w w.heap.size A n xs := by
  have hl : xs.length = n := by have := h.1; simpa using this
  refine ⟨hl, fun hn => ?_⟩
  rcases h.2 with ⟨-, h0⟩ | ⟨g, cap, cur, hv, _, hh, _, _, _, _⟩
  · omega
  · injection hv with hv
    subst hv
    refine ⟨g, 0, rfl, (Array.getElem?_eq_some_iff.1 hh).1, fun j hj => ?_⟩
    have := h.cells (g := g) rfl j (.int .i64 (xs.getD j 0)) (by simp [List.getD, show j < xs.length by omega])
    have ha : (⟨g, 0, none⟩ : Addr).add j = ⟨g, j, none⟩ := by unfold Addr.add; split <;> simp_all
    rw [ha] at this
    simpa using this
end


/-- 'nothing that was there has changed', kept from the walk -/
def Bel (w w' : World) : Prop := Below w.heap.size w w'

theorem RI.next {w w' : World} {A : Option Addr} {n : Nat} {xs : List Int} (h : RI w w.heap.size A n xs) (hb : Below w.heap.size w w') : RI w' w'.heap.size A n xs := (h.below hb).more hb.size
theorem RI_lit3 (W : World) (a b c : Int) (t : TypeId) : RI (W.alloc (.cells #[.int .i64 a, .int .i64 b, .int .i64 c] t)) (W.heap.size + 1) (some ⟨W.heap.size, 0, none⟩) 3 [a, b, c] :=
  ⟨rfl, fun _ => ⟨W.heap.size, 0, rfl, by omega, fun j hj => by
    rw [World.cell?_alloc_at _ _ _ _ rfl]
    match j, hj with
    | 0, _ => rfl
    | 1, _ => rfl
    | 2, _ => rfl⟩⟩
theorem RI_lit2 (W : World) (a b : Int) (t : TypeId) : RI (W.alloc (.cells #[.int .i64 a, .int .i64 b] t)) (W.heap.size + 1) (some ⟨W.heap.size, 0, none⟩) 2 [a, b] :=
  ⟨rfl, fun _ => ⟨W.heap.size, 0, rfl, by omega, fun j hj => by
    rw [World.cell?_alloc_at _ _ _ _ rfl]
    match j, hj with
    | 0, _ => rfl
    | 1, _ => rfl⟩⟩
theorem RI_lit1 (W : World) (a : Int) (t : TypeId) : RI (W.alloc (.cells #[.int .i64 a] t)) (W.heap.size + 1) (some ⟨W.heap.size, 0, none⟩) 1 [a] :=
  ⟨rfl, fun _ => ⟨W.heap.size, 0, rfl, by omega, fun j hj => by
    rw [World.cell?_alloc_at _ _ _ _ rfl]
    match j, hj with
    | 0, _ => rfl⟩⟩

end Go.Proofs.YtpoalgkgomljmaaDoor

namespace Go.Proofs.YtpoalgkgomljmaaDoor
open Go.RowKit

theorem RI.one {w : World} {B n k : Nat} {A : Option Addr} {xs : List Int} (h : RI w B A n xs) (hk : k < n) : ∃ b off, A = some ⟨b, off, none⟩ ∧ b < B ∧ w.cell? ⟨b, off + k, none⟩ = some (.int .i64 (xs.getD k 0)) := by
  obtain ⟨b, off, e, hb, hc⟩ := h.2 (by omega)
  exact ⟨b, off, e, hb, hc k hk⟩
/-- numbers, read from whatever memory; all that was there is kept -/
def IPost (l : List Int) (w : World) (e : Ending) (w' : World) : Prop :=
  (∃ A c, e = .returned (.slice A l.length c) ∧ RI w' w'.heap.size A l.length l ∧ (A = none → c = 0) ∧ l.length ≤ c) ∧ Below w.heap.size w w'
theorem ipost_mk {A : Option Addr} {n c : Nat} {xs : List Int} {w w' : World} (hr : RI w' w'.heap.size A n xs) (hnil : A = none → c = 0) (hnc : n ≤ c) (hb : Below w.heap.size w w') : IPost xs w (.returned (.slice A n c)) w' := by
  have := hr.1
  subst this
  exact ⟨⟨A, c, rfl, hr, hnil, hnc⟩, hb⟩
theorem IPost.trans {l : List Int} {w w1 w' : World} {e : Ending} (hb : Below w.heap.size w w1) (h : IPost l w1 e w') : IPost l w e w' := ⟨h.1, hb.trans (h.2.mono hb.size)⟩
theorem ipost_nil {w w' : World} (hb : Below w.heap.size w w') : IPost [] w (.returned (.slice none 0 0)) w' := ipost_mk RI.nil (fun _ => rfl) (Nat.le_refl _) hb
theorem ipost_own {l : List Int} {w w' : World} {B : Nat} {v : Value} (h : w'.ownsRow B 3 1 v l.length (l.map (Value.int .i64))) (hb : Below w.heap.size w w') : IPost l w (.returned v) w' := by
  obtain ⟨A, c, rfl⟩ := own_form h
  exact ipost_mk (RI.of_own h) (own_nil h) (own_cap h) hb
theorem calls_ipost {P : Program} {f : FuncId} {args : Array Value} {w : World} {r l : List Int} (h : Calls P f args w (IPost r w)) (e : r = l) : Calls P f args w (IPost l w) := by
  subst e; exact h
/-- amounts that are asked -/
structure NAsk (w : World) (A : Option Addr) (n : Nat) (xs : List Int) : Prop where
  reads : RI w w.heap.size A n xs
  few : n ≤ 10
  int : ∀ x ∈ xs, I64 x
theorem NAsk.next {w w' : World} {A : Option Addr} {n : Nat} {xs : List Int} (h : NAsk w A n xs) (hb : Below w.heap.size w w') : NAsk w' A n xs := ⟨h.reads.next hb, h.few, h.int⟩

/-- a number as an element -/
def EI : Elem Int := fun _ _ x vs => vs = [.int .i64 x]
theorem ei_steady : Steady EI := ⟨fun h _ _ => h⟩
theorem RN.ri {w : World} {B n : Nat} {A : Option Addr} {xs : List Int} (h : RN EI 1 w (Lt B) A n xs) : RI w B A n xs :=
  ⟨h.1, fun hn => by
    obtain ⟨b, off, e, hb, hc⟩ := h.2 hn
    refine ⟨b, off, e, hb, fun j hj => ?_⟩
    have hl : j < xs.length := by rw [h.1]; exact hj
    obtain ⟨vs, _, h2, h3⟩ := hc j xs[j] (List.getElem?_eq_getElem hl)
    have h3' : vs = [.int .i64 xs[j]] := h3
    subst h3'
    have := h2 0 _ rfl
    rw [show off + (j * 1 + 0) = off + j by omega] at this
    rw [List.getD, List.getElem?_eq_getElem hl]
    exact this⟩
theorem ON.ipost {t : TypeId} {l : List Int} {w w' : World} {v : Value} (h : ON EI 1 t w v l w') : IPost l w (.returned v) w' := by
  obtain ⟨A, c, rfl, h1, h2⟩ := h.form
  exact ipost_mk (h.reads ei_steady (by omega) rfl).ri h1 h2 h.below

/-- append(out, xs...), xs nil or not -/
theorem wpList_append_RI {P : Program} (w : World) {ops : Array Oper} {rest : List Oper} {o : Oper} {a : Act} {Q : Exit → Act → World → Prop} (hgd : o.guard = none) (s x : Operand) (t : TypeId)
    (ho : o.op = .call { callee := .builtin .append, args := #[s, x], argTypes := #[t, t] })
    (base : Nat) (e : TypeId) (i : TypeInfo) (z : Value) (bytes : Nat) (ht : P.underlying t = some (.slice e)) (hi : P.info? e = some i) (hz : i.zero = some z)
    (hsize : i.size = 1) (hby : i.bytes = bytes) (hzs : z.cells.size = 1)
    (v : Value) (n : Nat) (ys : List Value) (hs : a.eval s = v) (hown : w.ownsRow base e 1 v n ys)
    (B : Nat) (A : Option Addr) (m c : Nat) (xs : List Int) (hx : a.eval x = .slice A m c) (hr : RI w B A m xs) (hnil : A = none → c = 0)
    (h63 : n + m ≤ maxLen) (hbytes : (n + m) * bytes ≤ 140737488355328) (hbase : base ≤ w.heap.size)
    (h : ∀ v' w', w'.ownsRow base e 1 v' (n + m) (ys ++ xs.map (Value.int .i64)) → w.grownBy w' v.ownBlock → wpList P ops Q rest (a.put o.dst v') w') : wpList P ops Q (o :: rest) a w := by
  cases A with
  | none =>
    have hc := hnil rfl
    subst hc
    have hm : m = 0 := by
      rcases Nat.eq_zero_or_pos m with h0 | h0
      · exact h0
      · obtain ⟨b, off, e', _⟩ := hr.2 h0; cases e'
    subst hm
    have hxs : xs = [] := List.eq_nil_of_length_eq_zero hr.1
    subst hxs
    exact wpList_append_own_none hgd s x t ho base e i 1 ht hi v n ys hs hown hx (h v w (by simpa using hown) (World.grownBy.refl w _))
  | some ad =>
    refine wpList_append_own w hgd s x t ho base e i z 1 bytes ht hi hz hsize hby hzs (by omega) v n ys hs hown ad m c (xs.map (Value.int .i64)) hx (by simp [hr.1]) ?_ (by intro u hu; obtain ⟨k, _, rfl⟩ := List.mem_map.1 hu; rfl) h63 hbytes hbase fun v' w' h1 h2 _ => h v' w' h1 h2
    intro j u hj
    have hjl : j < xs.length := by
      have := (List.getElem?_eq_some_iff.1 hj).1
      simpa using this
    obtain ⟨b, off, e', _, hc⟩ := hr.2 (by have := hr.1; omega)
    injection e' with e'
    subst e'
    have h1 := hc j (by have := hr.1; omega)
    have ha : (⟨b, off, none⟩ : Addr).add j = ⟨b, off + j, none⟩ := by unfold Addr.add; split <;> simp_all
    rw [ha, h1]
    simp [hjl] at hj
    rw [← hj]
    simp [List.getD, hjl]
/-- numbers and an error's number, read from whatever memory; all that was there is kept -/
def IEPost (l : List Int) (er : Int) (w : World) (e : Ending) (w' : World) : Prop :=
  (∃ A c, e = .returned (.tuple #[.slice A l.length c, .int .i64 er]) ∧ RI w' w'.heap.size A l.length l ∧ (A = none → c = 0) ∧ l.length ≤ c) ∧ Below w.heap.size w w'
theorem iepost_mk {A : Option Addr} {n c : Nat} {xs : List Int} {er : Int} {w w' : World} (hr : RI w' w'.heap.size A n xs) (hnil : A = none → c = 0) (hnc : n ≤ c) (hb : Below w.heap.size w w') : IEPost xs er w (.returned (.tuple #[.slice A n c, .int .i64 er])) w' := by
  have := hr.1
  subst this
  exact ⟨⟨A, c, rfl, hr, hnil, hnc⟩, hb⟩
theorem calls_iepost {P : Program} {f : FuncId} {args : Array Value} {w : World} {r : List Int × Int} {l : List Int} {er : Int} (h : Calls P f args w (IEPost r.1 r.2 w)) (e : r = (l, er)) : Calls P f args w (IEPost l er w) := by
  subst e; exact h

/-- an owned row of numbers: its cells, told as a list -/
theorem on_own {t : TypeId} {w wr : World} {v : Value} {xs : List Int} (h : ON EI 1 t w v xs wr) : wr.ownsRow w.heap.size t 1 v xs.length (xs.map (Value.int .i64)) ∧ Below w.heap.size w wr := by
  obtain ⟨fl, h1, h2, h3⟩ := h
  have e : fl = xs.map (Value.int .i64) := by
    apply List.ext_getElem?
    intro j
    by_cases hj : j < xs.length
    · have hx : xs[j]? = some xs[j] := List.getElem?_eq_getElem hj
      have h4 : (fl.drop (j * 1)).take 1 = [.int .i64 xs[j]] := h3 j _ hx
      have h5 : ((fl.drop (j * 1)).take 1)[0]? = some (.int .i64 xs[j]) := by rw [h4]; rfl
      rw [List.getElem?_take_of_lt (by omega), List.getElem?_drop] at h5
      rw [List.getElem?_map, hx]
      simpa using h5
    · have h6 := h1.1
      rw [List.getElem?_eq_none (by omega), List.getElem?_eq_none (by simp; omega)]
  subst e
  exact ⟨h1, h2⟩
theorem own_on {t : TypeId} {w wr : World} {v : Value} {xs : List Int} (h : wr.ownsRow w.heap.size t 1 v xs.length (xs.map (Value.int .i64))) (hb : Below w.heap.size w wr) : ON EI 1 t w v xs wr :=
  ⟨_, h, hb, fun j x hx => by
    show _ = _
    have hj := (List.getElem?_eq_some_iff.1 hx).1
    rw [← List.map_drop, ← List.map_take]
    have : (xs.drop (j * 1)).take 1 = [x] := by
      rw [Nat.mul_one, List.drop_eq_getElem_cons hj]
      have hxj := (List.getElem?_eq_some_iff.1 hx).2
      rw [hxj]; rfl
    rw [this]; rfl⟩

end Go.Proofs.YtpoalgkgomljmaaDoor

namespace Go.Proofs.YtpoalgkgomljmaaDoor
open Go.ChangeShapes Go.WideShapes Go.ChangeAt Go.RowKit Go.Deep

/-- a number, in an int's bounds, as an element -/
def EJ : Elem Int := fun _ _ x vs => vs = [.int .i64 x] ∧ I64 x
theorem RN.rj {w : World} {B n : Nat} {A : Option Addr} {xs : List Int} (h : RN EJ 1 w (Lt B) A n xs) : RI w B A n xs ∧ ∀ x ∈ xs, I64 x := by
  have h' : RN EI 1 w (Lt B) A n xs := ⟨h.1, fun hn => by
    obtain ⟨b, off, e, hb, hc⟩ := h.2 hn
    exact ⟨b, off, e, hb, fun j x hx => let ⟨vs, h1, h2, h3⟩ := hc j x hx; ⟨vs, h1, h2, h3.1⟩⟩⟩
  refine ⟨h'.ri, fun x hx => ?_⟩
  obtain ⟨k, hk, rfl⟩ := List.getElem_of_mem hx
  obtain ⟨_, _, _, _, _, _, _, h3⟩ := RN.at h (List.getElem?_eq_getElem hk)
  exact h3.2
set_option maxRecDepth 100000 in
theorem open_RJ {H : Type} {enc : TypeId × Value → H} {W : World} {b0 : Nat} {v : Value} {d : DataW H} {ps : List MemPlace}
    (hval : Value.okWide Tryd.prog W .any b0 23 v) (h : DataW.Trod enc Tryd.prog W 0 (fun _ => true) true 23 v d ps) :
    ∃ A n c xs, v = .slice A n c ∧ RI W W.heap.size A n xs ∧ (∀ x ∈ xs, I64 x) ∧ (A = none → c = 0) ∧ n ≤ c ∧ n ≤ maxLen := by
  obtain ⟨fuel, hf⟩ := h
  obtain ⟨a', n', c', rfl⟩ := okWide_slice Tryd.underlying23 hval
  obtain ⟨A, n, c, xs, e, hr, h1, h2, h3⟩ := open_RN (E := EJ) (C := 1) Tryd.underlying23 (by kernel_rfl) (by omega) (fun n cs y _ ht => by
    obtain ⟨z, e0, _, hw⟩ := DataW.trod_int Tryd.underlying3 ht
    exact ⟨z, e0, i64_wf hw⟩) hf
  simp [Value.cells] at e
  obtain ⟨rfl, rfl, rfl⟩ := e
  obtain ⟨g1, g2⟩ := hr.rj
  exact ⟨_, _, _, xs, rfl, g1, g2, h1, h2, h3⟩

set_option maxRecDepth 100000 in
theorem open_things {H : Type} {enc : TypeId × Value → H} {W : World} {v : Value} {x : DataW H × List MemPlace} {fuel : Nat}
    (hf : DataW.trod enc Tryd.prog W 0 (fun _ => true) true fuel 23 [v] = some x) : ∃ A m c xs, v = .slice A m c ∧ RN EI 1 W (Lt W.heap.size) A m xs ∧ (A = none → c = 0) ∧ m ≤ c ∧ m ≤ maxLen ∧ ∀ n ∈ xs, I64 n := by
  obtain ⟨A, n, c, xs, e, hr, h1, h2, h3⟩ := open_RN (E := fun w ok x vs => EI w ok x vs ∧ I64 x) (C := 1) Tryd.underlying23 (by kernel_rfl) (by omega) (fun n cs y _ ht => by
    obtain ⟨z, e, _, wz⟩ := DataW.trod_int Tryd.underlying3 ht
    exact ⟨z, by rw [e]; rfl, i64_wf wz⟩) hf
  refine ⟨A, n, c, xs, by simpa using e, ⟨hr.1, fun hn => ?_⟩, h1, h2, h3, fun z hz => ?_⟩
  · obtain ⟨b, off, e, hb, hc⟩ := hr.2 hn
    refine ⟨b, off, e, hb, fun j x hx => ?_⟩
    obtain ⟨vs, a1, a2, a3⟩ := hc j x hx
    exact ⟨vs, a1, a2, a3.1⟩
  · obtain ⟨j, hj, rfl⟩ := List.getElem_of_mem hz
    obtain ⟨b, off, e, hb, hc⟩ := hr.2 (by have := hr.1; omega)
    obtain ⟨vs, a1, a2, a3⟩ := hc j _ (List.getElem?_eq_getElem hj)
    exact a3.2

end Go.Proofs.YtpoalgkgomljmaaDoor

namespace Go.Proofs.YtpoalgkgomljmaaDoor

/-- place i of l: in range, and above the place before it -/
def okAt (l : List Int) (i : Nat) : Prop := 0 ≤ l.getD i 0 ∧ l.getD i 0 ≤ 255 ∧ (0 < i → l.getD (i - 1) 0 < l.getD i 0)
instance (l : List Int) (i : Nat) : Decidable (okAt l i) := by unfold okAt; infer_instance
def rightB (l : List Int) : Bool := decide (∀ i, i < l.length → okAt l i)

theorem rightB_iff (l : List Int) : rightB l = true ↔ ∀ i, i < l.length → okAt l i := by simp [rightB]
theorem rightB_false (l : List Int) (i : Nat) (hi : i < l.length) (h : ¬ okAt l i) : rightB l = false := by
  rw [← Bool.not_eq_true, rightB_iff]; exact fun H => h (H i hi)

theorem okAt_cons (x : Int) (t : List Int) (i : Nat) (hi : 0 < i) : okAt (x :: t) (i + 1) ↔ okAt t i := by
  unfold okAt
  have e : i + 1 - 1 = (i - 1) + 1 := by omega
  rw [e, List.getD_cons_succ, List.getD_cons_succ]
  simp [hi]

theorem right_tail {x : Int} {t : List Int} (h : rightB (x :: t) = true) : rightB t = true := by
  rw [rightB_iff] at h ⊢
  intro i hi
  rcases Nat.eq_zero_or_pos i with rfl | hp
  · have h1 := h 1 (by simp; omega)
    have h0 := h 0 (by simp)
    unfold okAt at h1 h0 ⊢
    simp at h1 h0 ⊢
    omega
  · exact (okAt_cons x t i hp).1 (h (i + 1) (by simp; omega))

theorem right_head {x : Int} {t : List Int} (h : rightB (x :: t) = true) : 0 ≤ x ∧ x ≤ 255 := by
  rw [rightB_iff] at h
  have h0 := h 0 (by simp)
  unfold okAt at h0; simp at h0; omega

theorem right_below {x : Int} {t : List Int} (h : rightB (x :: t) = true) : ∀ y ∈ t, x < y := by
  induction t generalizing x with
  | nil => intro y hy; cases hy
  | cons z t ih =>
    have hz : x < z := by
      rw [rightB_iff] at h
      have h1 := h 1 (by simp)
      unfold okAt at h1; simp at h1; omega
    intro y hy
    rcases List.mem_cons.1 hy with rfl | hy
    · exact hz
    · have := ih (right_tail h) y hy
      omega

theorem right_cons {x : Int} {t : List Int} (hx : 0 ≤ x ∧ x ≤ 255) (ht : rightB t = true) (hb : ∀ y ∈ t, x < y) : rightB (x :: t) = true := by
  rw [rightB_iff] at ht ⊢
  intro i hi
  rcases Nat.eq_zero_or_pos i with rfl | hp
  · unfold okAt; simp; exact hx
  · obtain ⟨j, rfl⟩ : ∃ j, i = j + 1 := ⟨i - 1, by omega⟩
    have hj : j < t.length := by simpa using hi
    have hk := ht j hj
    rcases Nat.eq_zero_or_pos j with rfl | hjp
    · have := hb (t.getD 0 0) (by simp [List.getD, hj])
      unfold okAt at hk ⊢
      simp at hk this ⊢
      omega
    · exact (okAt_cons x t j hjp).2 hk

theorem right_mem {l : List Int} (h : rightB l = true) : ∀ n ∈ l, 0 ≤ n ∧ n ≤ 255 := by
  induction l with
  | nil => intro n hn; cases hn
  | cons x t ih =>
    intro n hn
    rcases List.mem_cons.1 hn with rfl | hn
    · exact right_head h
    · exact ih (right_tail h) n hn

/-- two sets with the same numbers are one -/
theorem right_ext {a b : List Int} (ha : rightB a = true) (hb : rightB b = true) (h : ∀ n, n ∈ a ↔ n ∈ b) : a = b := by
  induction a generalizing b with
  | nil =>
    cases b with
    | nil => rfl
    | cons y t => exact absurd ((h y).2 (by simp)) (by simp)
  | cons x s ih =>
    cases b with
    | nil => exact absurd ((h x).1 (by simp)) (by simp)
    | cons y t =>
      have hxy : x = y := by
        have h1 := (h x).1 (by simp)
        have h2 := (h y).2 (by simp)
        rcases List.mem_cons.1 h1 with e | e
        · exact e
        · rcases List.mem_cons.1 h2 with e' | e'
          · exact e'.symm
          · have := right_below hb x e; have := right_below ha y e'; omega
      subst hxy
      rw [ih (right_tail ha) (right_tail hb) fun n => ?_]
      constructor
      · intro hn
        rcases List.mem_cons.1 ((h n).1 (List.mem_cons_of_mem _ hn)) with e | e
        · subst e; have := right_below ha n hn; omega
        · exact e
      · intro hn
        rcases List.mem_cons.1 ((h n).2 (List.mem_cons_of_mem _ hn)) with e | e
        · subst e; have := right_below hb n hn; omega
        · exact e

/-- the numbers from m up to below m + k that p says yes to -/
def pickN (p : Int → Bool) : Nat → Nat → List Int
  | _, 0 => []
  | m, k + 1 => if p m then (m : Int) :: pickN p (m + 1) k else pickN p (m + 1) k
def pickL (p : Int → Bool) : List Int := pickN p 0 256

theorem mem_pickN (p : Int → Bool) (n : Int) : ∀ (k m : Nat), n ∈ pickN p m k ↔ ((m : Int) ≤ n ∧ n < m + k ∧ p n = true)
  | 0, m => by simp [pickN]; omega
  | k + 1, m => by
    have ih := mem_pickN p n k (m + 1)
    unfold pickN
    by_cases hn : n = m
    · subst hn
      by_cases hp : p m = true
      · simp [hp]; omega
      · simp [hp, ih]
    · split
      · rw [List.mem_cons, ih]
        constructor
        · rintro (e | e)
          · exact absurd e hn
          · refine ⟨by omega, by omega, e.2.2⟩
        · intro e; right; exact ⟨by omega, by omega, e.2.2⟩
      · rw [ih]
        constructor
        · intro e; exact ⟨by omega, by omega, e.2.2⟩
        · intro e; exact ⟨by omega, by omega, e.2.2⟩

theorem mem_pickL (p : Int → Bool) (n : Int) : n ∈ pickL p ↔ (0 ≤ n ∧ n ≤ 255 ∧ p n = true) := by
  unfold pickL
  rw [mem_pickN]
  constructor
  · intro h; exact ⟨by omega, by omega, h.2.2⟩
  · intro h; exact ⟨by omega, by omega, h.2.2⟩

theorem right_pickN (p : Int → Bool) : ∀ (k m : Nat), m + k ≤ 256 → rightB (pickN p m k) = true
  | 0, m, _ => by simp [pickN, rightB]
  | k + 1, m, h => by
    have ih := right_pickN p k (m + 1) (by omega)
    unfold pickN
    split
    · refine right_cons (by omega) ih fun y hy => ?_
      have := (mem_pickN p y k (m + 1)).1 hy
      omega
    · exact ih

theorem right_pickL (p : Int → Bool) : rightB (pickL p) = true := right_pickN p 256 0 (by omega)

theorem length_pickN (p : Int → Bool) : ∀ (k m : Nat), (pickN p m k).length ≤ k
  | 0, _ => by simp [pickN]
  | k + 1, m => by
    have ih := length_pickN p k (m + 1)
    unfold pickN
    split
    · simp; omega
    · omega
theorem length_pickL (p : Int → Bool) : (pickL p).length ≤ 256 := length_pickN p 256 0

theorem pickN_snoc (p : Int → Bool) : ∀ (k m : Nat), pickN p m (k + 1) = pickN p m k ++ (if p ((m + k : Nat) : Int) then [((m + k : Nat) : Int)] else [])
  | 0, m => by simp [pickN]
  | k + 1, m => by
    have ih := pickN_snoc p k (m + 1)
    rw [pickN, ih]
    conv => rhs; rw [pickN]
    have e : m + 1 + k = m + (k + 1) := by omega
    rw [e]
    split <;> simp

theorem pickL_congr {p q : Int → Bool} (h : ∀ n, 0 ≤ n → n ≤ 255 → p n = q n) : pickL p = pickL q :=
  right_ext (right_pickL p) (right_pickL q) fun n => by
    rw [mem_pickL, mem_pickL]
    constructor
    · intro e; exact ⟨e.1, e.2.1, by rw [← h n e.1 e.2.1]; exact e.2.2⟩
    · intro e; exact ⟨e.1, e.2.1, by rw [h n e.1 e.2.1]; exact e.2.2⟩

theorem right_pick {l : List Int} (h : rightB l = true) : pickL (fun n => l.contains n) = l :=
  right_ext (right_pickL _) h fun n => by
    rw [mem_pickL, List.contains_iff_mem]
    constructor
    · intro e; exact e.2.2
    · intro e; have := right_mem h n e; exact ⟨this.1, this.2, e⟩

def inB (xs : List Int) (v : Int) : Bool := xs.contains v

/-- what the document says of two sets: 0 either, 1 both, 2 the first alone -/
def keeps (how : Nat) (a b : List Int) (n : Int) : Bool :=
  if how = 0 then a.contains n || b.contains n else if how = 1 then a.contains n && b.contains n else a.contains n && !b.contains n
def whichL (how : Nat) (a b : List Int) : List Int := if rightB a && rightB b then pickL (keeps how a b) else []
def joinL (a b : List Int) : List Int := whichL 0 a b
def meetL (a b : List Int) : List Int := whichL 1 a b
def lessL (a b : List Int) : List Int := whichL 2 a b
def hasB (a : List Int) (n : Int) : Bool := rightB a && a.contains n
def partB (a b : List Int) : Bool := rightB a && rightB b && a.all fun n => b.contains n
def apartB (a b : List Int) : Bool := rightB a && rightB b && a.all fun n => !b.contains n

theorem right_whichL (how : Nat) (a b : List Int) : rightB (whichL how a b) = true := by
  unfold whichL; split
  · exact right_pickL _
  · simp [rightB]
theorem length_whichL (how : Nat) (a b : List Int) : (whichL how a b).length ≤ 256 := by
  unfold whichL; split
  · exact length_pickL _
  · simp

theorem whichL_wrong {how : Nat} {a b : List Int} (h : (rightB a && rightB b) = false) : whichL how a b = [] := by
  unfold whichL; rw [h]; rfl

theorem mem_joinL {a b : List Int} (ha : rightB a = true) (hb : rightB b = true) (n : Int) : n ∈ joinL a b ↔ n ∈ a ∨ n ∈ b := by
  unfold joinL whichL
  rw [ha, hb]
  simp only [Bool.and_self, if_true, mem_pickL, keeps, Bool.or_eq_true, List.contains_iff_mem]
  constructor
  · exact fun h => h.2.2
  · intro h
    have : 0 ≤ n ∧ n ≤ 255 := by exact h.elim (right_mem ha n) (right_mem hb n)
    exact ⟨this.1, this.2, h⟩
theorem mem_meetL {a b : List Int} (ha : rightB a = true) (hb : rightB b = true) (n : Int) : n ∈ meetL a b ↔ n ∈ a ∧ n ∈ b := by
  unfold meetL whichL
  rw [ha, hb]
  simp only [Bool.and_self, if_true, mem_pickL, keeps]
  simp only [Nat.one_ne_zero, if_false, Bool.and_eq_true, List.contains_iff_mem]
  constructor
  · exact fun h => h.2.2
  · intro h; have := right_mem ha n h.1; exact ⟨this.1, this.2, h⟩
theorem mem_lessL {a b : List Int} (ha : rightB a = true) (hb : rightB b = true) (n : Int) : n ∈ lessL a b ↔ n ∈ a ∧ n ∉ b := by
  unfold lessL whichL
  rw [ha, hb]
  simp only [Bool.and_self, if_true, mem_pickL, keeps]
  have e2 : ¬ (2 : Nat) = 0 := by omega
  have e1 : ¬ (2 : Nat) = 1 := by omega
  simp only [e2, e1, if_false, Bool.and_eq_true, List.contains_iff_mem, Bool.not_eq_true', ← Bool.not_eq_true]
  constructor
  · exact fun h => h.2.2
  · intro h; have := right_mem ha n h.1; exact ⟨this.1, this.2, h⟩

theorem right_joinL (a b : List Int) : rightB (joinL a b) = true := right_whichL 0 a b
theorem right_meetL (a b : List Int) : rightB (meetL a b) = true := right_whichL 1 a b
theorem right_lessL (a b : List Int) : rightB (lessL a b) = true := right_whichL 2 a b

/-- P1.1: Part is told by the count of the Meet -/
theorem length_le_of_sub {a b : List Int} (ha : rightB a = true) (hb : rightB b = true) (h : ∀ n ∈ a, n ∈ b) : a.length ≤ b.length := by
  induction a generalizing b with
  | nil => simp
  | cons x s ih =>
    induction b with
    | nil => exact absurd (h x (by simp)) (by simp)
    | cons y t iht =>
      by_cases hxy : x = y
      · subst hxy
        have := ih (right_tail ha) (right_tail hb) fun n hn => by
          rcases List.mem_cons.1 (h n (List.mem_cons_of_mem _ hn)) with e | e
          · subst e; have := right_below ha n hn; omega
          · exact e
        simp; omega
      · have hyx : y < x := by
          rcases List.mem_cons.1 (h x (by simp)) with e | e
          · exact absurd e hxy
          · exact right_below hb x e
        have := iht (right_tail hb) fun n hn => by
          rcases List.mem_cons.1 (h n hn) with e | e
          · subst e
            rcases List.mem_cons.1 hn with e' | e'
            · exact absurd e'.symm hxy
            · have := right_below ha n e'; omega
          · exact e
        simp at this ⊢; omega

theorem eq_of_sub_length {a b : List Int} (ha : rightB a = true) (hb : rightB b = true) (h : ∀ n ∈ a, n ∈ b) (hl : b.length ≤ a.length) : a = b := by
  induction a generalizing b with
  | nil => exact (List.eq_nil_of_length_eq_zero (by simpa using hl)).symm
  | cons x s ih =>
    cases b with
    | nil => exact absurd (h x (by simp)) (by simp)
    | cons y t =>
      by_cases hxy : x = y
      · subst hxy
        rw [ih (right_tail ha) (right_tail hb) (fun n hn => by
          rcases List.mem_cons.1 (h n (List.mem_cons_of_mem _ hn)) with e | e
          · subst e; have := right_below ha n hn; omega
          · exact e) (by simpa using hl)]
      · have hyx : y < x := by
          rcases List.mem_cons.1 (h x (by simp)) with e | e
          · exact absurd e hxy
          · exact right_below hb x e
        have := length_le_of_sub ha (right_tail hb) fun n hn => by
          rcases List.mem_cons.1 (h n hn) with e | e
          · subst e
            rcases List.mem_cons.1 hn with e' | e'
            · exact absurd e'.symm hxy
            · have := right_below ha n e'; omega
          · exact e
        simp at this hl; omega

theorem part_length (a b : List Int) : partB a b = (rightB a && rightB b && decide ((meetL a b).length = a.length)) := by
  unfold partB
  by_cases ha : rightB a = true
  · by_cases hb : rightB b = true
    · rw [ha, hb]
      simp only [Bool.and_self, Bool.true_and]
      rw [Bool.eq_iff_iff]
      simp only [List.all_eq_true, List.contains_iff_mem, decide_eq_true_eq]
      constructor
      · intro h
        have : meetL a b = a := right_ext (right_meetL a b) ha fun n => by
          rw [mem_meetL ha hb]; exact ⟨fun e => e.1, fun e => ⟨e, h n e⟩⟩
        rw [this]
      · intro h n hn
        have e := eq_of_sub_length (right_meetL a b) ha (fun n hn => ((mem_meetL ha hb n).1 hn).1) (by omega)
        rw [← e] at hn
        exact ((mem_meetL ha hb n).1 hn).2
    · simp [hb]
  · simp [ha]
theorem apart_length (a b : List Int) : apartB a b = (rightB a && rightB b && decide ((meetL a b).length = 0)) := by
  unfold apartB
  by_cases ha : rightB a = true
  · by_cases hb : rightB b = true
    · rw [ha, hb]
      simp only [Bool.and_self, Bool.true_and]
      rw [Bool.eq_iff_iff]
      simp only [List.all_eq_true, Bool.not_eq_true', ← Bool.not_eq_true, List.contains_iff_mem, decide_eq_true_eq]
      constructor
      · intro h
        have : meetL a b = [] := List.eq_nil_iff_forall_not_mem.2 fun n hn => h n ((mem_meetL ha hb n).1 hn).1 ((mem_meetL ha hb n).1 hn).2
        rw [this]; rfl
      · intro h n hn hnb
        have e := List.eq_nil_of_length_eq_zero h
        have := (mem_meetL ha hb n).2 ⟨hn, hnb⟩
        rw [e] at this; cases this
    · simp [hb]
  · simp [ha]

end Go.Proofs.YtpoalgkgomljmaaDoor
