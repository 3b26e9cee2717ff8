/- Words for memory: a slice of int that reads as a list; no condition. Words for memory: a slice of int as a call's result; numbers that are asked. Arguments that are numbers, or lists of numbers, opened. Plain facts on sets of numbers from 0 to 255 kept as rising lists; no condition. What a graph of things is, and what is over what, in plain words: chains of parents. No program's text is walked here. The reference's Plus (bailiwickref02): a time and a length further on, at most Never; of any two numbers. -/
import Derived.Test.YtimgdlddfnglaaaMg01
import Derived.Laws.AppendOwnNone
import Derived.LoopTactic
namespace Go.Proofs.Ytimgdlddfnglaaa
open Go.RowKit

/-- the slice value '.slice A n c' holds the numbers xs, below block B -/
def RI (w : World) (B : Nat) (A : Option Addr) (n : Nat) (xs : List Int) : Prop :=
  xs.length = n ∧ (0 < n → ∃ b off, A = some ⟨b, off, none⟩ ∧ b < B ∧ ∀ j, j < n → w.cell? ⟨b, off + j, none⟩ = some (.int .i64 (xs.getD j 0)))

section
variable {w w' : World} {B B' n : Nat} {A : Option Addr} {xs : List Int}
theorem RI.nil : RI w B A 0 [] := ⟨rfl, fun h => absurd h (by omega)⟩
theorem RI.keep (h : RI w B A n xs) (hk : ∀ p : Addr, p.block < B → w'.cell? p = w.cell? p) : RI w' B A n xs :=
  ⟨h.1, fun hn => by
    obtain ⟨b, off, e, hb, hc⟩ := h.2 hn
    exact ⟨b, off, e, hb, fun j hj => (hk _ hb).trans (hc j hj)⟩⟩
theorem RI.more (h : RI w B A n xs) (hB : B ≤ B') : RI w B' A n xs :=
  ⟨h.1, fun hn => by
    obtain ⟨b, off, e, hb, hc⟩ := h.2 hn
    exact ⟨b, off, e, by omega, hc⟩⟩
theorem RI.below (h : RI w B A n xs) (hb : Below B w w') : RI w' B A n xs := h.keep fun _ hp => hb.cell hp
theorem RI.drewN (h : RI w B A n xs) (k : Nat) : RI (w.drewN k) B A n xs := h
theorem RI.of_own {base : Nat} {e : TypeId} {c : Nat} (h : w.ownsRow base e 1 (.slice A n c) n (xs.map (Value.int .i64))) : RI w w.heap.size A n xs := by
  have hl : xs.length = n := by have := h.1; simpa using this
  refine ⟨hl, fun hn => ?_⟩
  rcases h.2 with ⟨-, h0⟩ | ⟨g, cap, cur, hv, _, hh, _, _, _, _⟩
  · omega
  · injection hv with hv
    subst hv
    refine ⟨g, 0, rfl, (Array.getElem?_eq_some_iff.1 hh).1, fun j hj => ?_⟩
    have := h.cells (g := g) rfl j (.int .i64 (xs.getD j 0)) (by simp [List.getD, show j < xs.length by omega])
    have ha : (⟨g, 0, none⟩ : Addr).add j = ⟨g, j, none⟩ := by unfold Addr.add; split <;> simp_all
    rw [ha] at this
    simpa using this
end


/-- 'nothing that was there has changed', kept from the walk -/
def Bel (w w' : World) : Prop := Below w.heap.size w w'

theorem RI.next {w w' : World} {A : Option Addr} {n : Nat} {xs : List Int} (h : RI w w.heap.size A n xs) (hb : Below w.heap.size w w') : RI w' w'.heap.size A n xs := (h.below hb).more hb.size
theorem RI_lit3 (W : World) (a b c : Int) (t : TypeId) : RI (W.alloc (.cells #[.int .i64 a, .int .i64 b, .int .i64 c] t)) (W.heap.size + 1) (some ⟨W.heap.size, 0, none⟩) 3 [a, b, c] :=
  ⟨rfl, fun _ => ⟨W.heap.size, 0, rfl, by omega, fun j hj => by
    rw [World.cell?_alloc_at _ _ _ _ rfl]
    match j, hj with
    | 0, _ => rfl
    | 1, _ => rfl
    | 2, _ => rfl⟩⟩
theorem RI_lit2 (W : World) (a b : Int) (t : TypeId) : RI (W.alloc (.cells #[.int .i64 a, .int .i64 b] t)) (W.heap.size + 1) (some ⟨W.heap.size, 0, none⟩) 2 [a, b] :=
  ⟨rfl, fun _ => ⟨W.heap.size, 0, rfl, by omega, fun j hj => by
    rw [World.cell?_alloc_at _ _ _ _ rfl]
    match j, hj with
    | 0, _ => rfl
    | 1, _ => rfl⟩⟩
theorem RI_lit1 (W : World) (a : Int) (t : TypeId) : RI (W.alloc (.cells #[.int .i64 a] t)) (W.heap.size + 1) (some ⟨W.heap.size, 0, none⟩) 1 [a] :=
  ⟨rfl, fun _ => ⟨W.heap.size, 0, rfl, by omega, fun j hj => by
    rw [World.cell?_alloc_at _ _ _ _ rfl]
    match j, hj with
    | 0, _ => rfl⟩⟩

end Go.Proofs.Ytimgdlddfnglaaa

namespace Go.Proofs.Ytimgdlddfnglaaa
open Go.RowKit

theorem RI.one {w : World} {B n k : Nat} {A : Option Addr} {xs : List Int} (h : RI w B A n xs) (hk : k < n) : ∃ b off, A = some ⟨b, off, none⟩ ∧ b < B ∧ w.cell? ⟨b, off + k, none⟩ = some (.int .i64 (xs.getD k 0)) := by
  obtain ⟨b, off, e, hb, hc⟩ := h.2 (by omega)
  exact ⟨b, off, e, hb, hc k hk⟩
/-- numbers, read from whatever memory; all that was there is kept -/
def IPost (l : List Int) (w : World) (e : Ending) (w' : World) : Prop :=
  (∃ A c, e = .returned (.slice A l.length c) ∧ RI w' w'.heap.size A l.length l ∧ (A = none → c = 0) ∧ l.length ≤ c) ∧ Below w.heap.size w w'
theorem ipost_mk {A : Option Addr} {n c : Nat} {xs : List Int} {w w' : World} (hr : RI w' w'.heap.size A n xs) (hnil : A = none → c = 0) (hnc : n ≤ c) (hb : Below w.heap.size w w') : IPost xs w (.returned (.slice A n c)) w' := by
  have := hr.1
  subst this
  exact ⟨⟨A, c, rfl, hr, hnil, hnc⟩, hb⟩
theorem IPost.trans {l : List Int} {w w1 w' : World} {e : Ending} (hb : Below w.heap.size w w1) (h : IPost l w1 e w') : IPost l w e w' := ⟨h.1, hb.trans (h.2.mono hb.size)⟩
theorem ipost_nil {w w' : World} (hb : Below w.heap.size w w') : IPost [] w (.returned (.slice none 0 0)) w' := ipost_mk RI.nil (fun _ => rfl) (Nat.le_refl _) hb
theorem ipost_own {l : List Int} {w w' : World} {B : Nat} {v : Value} (h : w'.ownsRow B 3 1 v l.length (l.map (Value.int .i64))) (hb : Below w.heap.size w w') : IPost l w (.returned v) w' := by
  obtain ⟨A, c, rfl⟩ := own_form h
  exact ipost_mk (RI.of_own h) (own_nil h) (own_cap h) hb
theorem calls_ipost {P : Program} {f : FuncId} {args : Array Value} {w : World} {r l : List Int} (h : Calls P f args w (IPost r w)) (e : r = l) : Calls P f args w (IPost l w) := by
  subst e; exact h
/-- amounts that are asked -/
structure NAsk (w : World) (A : Option Addr) (n : Nat) (xs : List Int) : Prop where
  reads : RI w w.heap.size A n xs
  few : n ≤ 10
  int : ∀ x ∈ xs, I64 x
theorem NAsk.next {w w' : World} {A : Option Addr} {n : Nat} {xs : List Int} (h : NAsk w A n xs) (hb : Below w.heap.size w w') : NAsk w' A n xs := ⟨h.reads.next hb, h.few, h.int⟩

/-- a number as an element -/
def EI : Elem Int := fun _ _ x vs => vs = [.int .i64 x]
theorem ei_steady : Steady EI := ⟨fun h _ _ => h⟩
theorem RN.ri {w : World} {B n : Nat} {A : Option Addr} {xs : List Int} (h : RN EI 1 w (Lt B) A n xs) : RI w B A n xs :=
  ⟨h.1, fun hn => by
    obtain ⟨b, off, e, hb, hc⟩ := h.2 hn
    refine ⟨b, off, e, hb, fun j hj => ?_⟩
    have hl : j < xs.length := by rw [h.1]; exact hj
    obtain ⟨vs, _, h2, h3⟩ := hc j xs[j] (List.getElem?_eq_getElem hl)
    have h3' : vs = [.int .i64 xs[j]] := h3
    subst h3'
    have := h2 0 _ rfl
    rw [show off + (j * 1 + 0) = off + j by omega] at this
    rw [List.getD, List.getElem?_eq_getElem hl]
    exact this⟩
theorem ON.ipost {t : TypeId} {l : List Int} {w w' : World} {v : Value} (h : ON EI 1 t w v l w') : IPost l w (.returned v) w' := by
  obtain ⟨A, c, rfl, h1, h2⟩ := h.form
  exact ipost_mk (h.reads ei_steady (by omega) rfl).ri h1 h2 h.below

/-- append(out, xs...), xs nil or not -/
theorem wpList_append_RI {P : Program} (w : World) {ops : Array Oper} {rest : List Oper} {o : Oper} {a : Act} {Q : Exit → Act → World → Prop} (hgd : o.guard = none) (s x : Operand) (t : TypeId)
    (ho : o.op = .call { callee := .builtin .append, args := #[s, x], argTypes := #[t, t] })
    (base : Nat) (e : TypeId) (i : TypeInfo) (z : Value) (bytes : Nat) (ht : P.underlying t = some (.slice e)) (hi : P.info? e = some i) (hz : i.zero = some z)
    (hsize : i.size = 1) (hby : i.bytes = bytes) (hzs : z.cells.size = 1)
    (v : Value) (n : Nat) (ys : List Value) (hs : a.eval s = v) (hown : w.ownsRow base e 1 v n ys)
    (B : Nat) (A : Option Addr) (m c : Nat) (xs : List Int) (hx : a.eval x = .slice A m c) (hr : RI w B A m xs) (hnil : A = none → c = 0)
    (h63 : n + m ≤ maxLen) (hbytes : (n + m) * bytes ≤ 140737488355328) (hbase : base ≤ w.heap.size)
    (h : ∀ v' w', w'.ownsRow base e 1 v' (n + m) (ys ++ xs.map (Value.int .i64)) → w.grownBy w' v.ownBlock → wpList P ops Q rest (a.put o.dst v') w') : wpList P ops Q (o :: rest) a w := by
  cases A with
  | none =>
    have hc := hnil rfl
    subst hc
    have hm : m = 0 := by
      rcases Nat.eq_zero_or_pos m with h0 | h0
      · exact h0
      · obtain ⟨b, off, e', _⟩ := hr.2 h0; cases e'
    subst hm
    have hxs : xs = [] := List.eq_nil_of_length_eq_zero hr.1
    subst hxs
    exact wpList_append_own_none hgd s x t ho base e i 1 ht hi v n ys hs hown hx (h v w (by simpa using hown) (World.grownBy.refl w _))
  | some ad =>
    refine wpList_append_own w hgd s x t ho base e i z 1 bytes ht hi hz hsize hby hzs (by omega) v n ys hs hown ad m c (xs.map (Value.int .i64)) hx (by simp [hr.1]) ?_ (by intro u hu; obtain ⟨k, _, rfl⟩ := List.mem_map.1 hu; rfl) h63 hbytes hbase fun v' w' h1 h2 _ => h v' w' h1 h2
    intro j u hj
    have hjl : j < xs.length := by
      have := (List.getElem?_eq_some_iff.1 hj).1
      simpa using this
    obtain ⟨b, off, e', _, hc⟩ := hr.2 (by have := hr.1; omega)
    injection e' with e'
    subst e'
    have h1 := hc j (by have := hr.1; omega)
    have ha : (⟨b, off, none⟩ : Addr).add j = ⟨b, off + j, none⟩ := by unfold Addr.add; split <;> simp_all
    rw [ha, h1]
    simp [hjl] at hj
    rw [← hj]
    simp [List.getD, hjl]
/-- numbers and an error's number, read from whatever memory; all that was there is kept -/
def IEPost (l : List Int) (er : Int) (w : World) (e : Ending) (w' : World) : Prop :=
  (∃ A c, e = .returned (.tuple #[.slice A l.length c, .int .i64 er]) ∧ RI w' w'.heap.size A l.length l ∧ (A = none → c = 0) ∧ l.length ≤ c) ∧ Below w.heap.size w w'
theorem iepost_mk {A : Option Addr} {n c : Nat} {xs : List Int} {er : Int} {w w' : World} (hr : RI w' w'.heap.size A n xs) (hnil : A = none → c = 0) (hnc : n ≤ c) (hb : Below w.heap.size w w') : IEPost xs er w (.returned (.tuple #[.slice A n c, .int .i64 er])) w' := by
  have := hr.1
  subst this
  exact ⟨⟨A, c, rfl, hr, hnil, hnc⟩, hb⟩
theorem calls_iepost {P : Program} {f : FuncId} {args : Array Value} {w : World} {r : List Int × Int} {l : List Int} {er : Int} (h : Calls P f args w (IEPost r.1 r.2 w)) (e : r = (l, er)) : Calls P f args w (IEPost l er w) := by
  subst e; exact h

/-- an owned row of numbers: its cells, told as a list -/
theorem on_own {t : TypeId} {w wr : World} {v : Value} {xs : List Int} (h : ON EI 1 t w v xs wr) : wr.ownsRow w.heap.size t 1 v xs.length (xs.map (Value.int .i64)) ∧ Below w.heap.size w wr := by
  obtain ⟨fl, h1, h2, h3⟩ := h
  have e : fl = xs.map (Value.int .i64) := by
    apply List.ext_getElem?
    intro j
    by_cases hj : j < xs.length
    · have hx : xs[j]? = some xs[j] := List.getElem?_eq_getElem hj
      have h4 : (fl.drop (j * 1)).take 1 = [.int .i64 xs[j]] := h3 j _ hx
      have h5 : ((fl.drop (j * 1)).take 1)[0]? = some (.int .i64 xs[j]) := by rw [h4]; rfl
      rw [List.getElem?_take_of_lt (by omega), List.getElem?_drop] at h5
      rw [List.getElem?_map, hx]
      simpa using h5
    · have h6 := h1.1
      rw [List.getElem?_eq_none (by omega), List.getElem?_eq_none (by simp; omega)]
  subst e
  exact ⟨h1, h2⟩
theorem own_on {t : TypeId} {w wr : World} {v : Value} {xs : List Int} (h : wr.ownsRow w.heap.size t 1 v xs.length (xs.map (Value.int .i64))) (hb : Below w.heap.size w wr) : ON EI 1 t w v xs wr :=
  ⟨_, h, hb, fun j x hx => by
    show _ = _
    have hj := (List.getElem?_eq_some_iff.1 hx).1
    rw [← List.map_drop, ← List.map_take]
    have : (xs.drop (j * 1)).take 1 = [x] := by
      rw [Nat.mul_one, List.drop_eq_getElem_cons hj]
      have hxj := (List.getElem?_eq_some_iff.1 hx).2
      rw [hxj]; rfl
    rw [this]; rfl⟩

end Go.Proofs.Ytimgdlddfnglaaa

namespace Go.Proofs.Ytimgdlddfnglaaa
open Go.ChangeShapes Go.WideShapes Go.ChangeAt Go.RowKit Go.Deep

/-- a number, in an int's bounds, as an element -/
def EJ : Elem Int := fun _ _ x vs => vs = [.int .i64 x] ∧ I64 x
theorem RN.rj {w : World} {B n : Nat} {A : Option Addr} {xs : List Int} (h : RN EJ 1 w (Lt B) A n xs) : RI w B A n xs ∧ ∀ x ∈ xs, I64 x := by
  have h' : RN EI 1 w (Lt B) A n xs := ⟨h.1, fun hn => by
    obtain ⟨b, off, e, hb, hc⟩ := h.2 hn
    exact ⟨b, off, e, hb, fun j x hx => let ⟨vs, h1, h2, h3⟩ := hc j x hx; ⟨vs, h1, h2, h3.1⟩⟩⟩
  refine ⟨h'.ri, fun x hx => ?_⟩
  obtain ⟨k, hk, rfl⟩ := List.getElem_of_mem hx
  obtain ⟨_, _, _, _, _, _, _, h3⟩ := RN.at h (List.getElem?_eq_getElem hk)
  exact h3.2
set_option maxRecDepth 100000 in
theorem open_RJ {H : Type} {enc : TypeId × Value → H} {W : World} {b0 : Nat} {v : Value} {d : DataW H} {ps : List MemPlace}
    (hval : Value.okWide Try.prog W .any b0 28 v) (h : DataW.Trod enc Try.prog W 0 (fun _ => true) true 28 v d ps) :
    ∃ A n c xs, v = .slice A n c ∧ RI W W.heap.size A n xs ∧ (∀ x ∈ xs, I64 x) ∧ (A = none → c = 0) ∧ n ≤ c ∧ n ≤ maxLen := by
  obtain ⟨fuel, hf⟩ := h
  obtain ⟨a', n', c', rfl⟩ := okWide_slice Try.underlying28 hval
  obtain ⟨A, n, c, xs, e, hr, h1, h2, h3⟩ := open_RN (E := EJ) (C := 1) Try.underlying28 (by kernel_rfl) (by omega) (fun n cs y _ ht => by
    obtain ⟨z, e0, _, hw⟩ := DataW.trod_int Try.underlying3 ht
    exact ⟨z, e0, i64_wf hw⟩) hf
  simp [Value.cells] at e
  obtain ⟨rfl, rfl, rfl⟩ := e
  obtain ⟨g1, g2⟩ := hr.rj
  exact ⟨_, _, _, xs, rfl, g1, g2, h1, h2, h3⟩

set_option maxRecDepth 100000 in
theorem open_things {H : Type} {enc : TypeId × Value → H} {W : World} {v : Value} {x : DataW H × List MemPlace} {fuel : Nat}
    (hf : DataW.trod enc Try.prog W 0 (fun _ => true) true fuel 28 [v] = some x) : ∃ A m c xs, v = .slice A m c ∧ RN EI 1 W (Lt W.heap.size) A m xs ∧ (A = none → c = 0) ∧ m ≤ c ∧ m ≤ maxLen ∧ ∀ n ∈ xs, I64 n := by
  obtain ⟨A, n, c, xs, e, hr, h1, h2, h3⟩ := open_RN (E := fun w ok x vs => EI w ok x vs ∧ I64 x) (C := 1) Try.underlying28 (by kernel_rfl) (by omega) (fun n cs y _ ht => by
    obtain ⟨z, e, _, wz⟩ := DataW.trod_int Try.underlying3 ht
    exact ⟨z, by rw [e]; rfl, i64_wf wz⟩) hf
  refine ⟨A, n, c, xs, by simpa using e, ⟨hr.1, fun hn => ?_⟩, h1, h2, h3, fun z hz => ?_⟩
  · obtain ⟨b, off, e, hb, hc⟩ := hr.2 hn
    refine ⟨b, off, e, hb, fun j x hx => ?_⟩
    obtain ⟨vs, a1, a2, a3⟩ := hc j x hx
    exact ⟨vs, a1, a2, a3.1⟩
  · obtain ⟨j, hj, rfl⟩ := List.getElem_of_mem hz
    obtain ⟨b, off, e, hb, hc⟩ := hr.2 (by have := hr.1; omega)
    obtain ⟨vs, a1, a2, a3⟩ := hc j _ (List.getElem?_eq_getElem hj)
    exact a3.2

end Go.Proofs.Ytimgdlddfnglaaa

namespace Go.Proofs.Ytimgdlddfnglaaa

/-- place i of l: in range, and above the place before it -/
def okAt (l : List Int) (i : Nat) : Prop := 0 ≤ l.getD i 0 ∧ l.getD i 0 ≤ 255 ∧ (0 < i → l.getD (i - 1) 0 < l.getD i 0)
instance (l : List Int) (i : Nat) : Decidable (okAt l i) := by unfold okAt; infer_instance
def rightB (l : List Int) : Bool := decide (∀ i, i < l.length → okAt l i)

theorem rightB_iff (l : List Int) : rightB l = true ↔ ∀ i, i < l.length → okAt l i := by simp [rightB]
theorem rightB_false (l : List Int) (i : Nat) (hi : i < l.length) (h : ¬ okAt l i) : rightB l = false := by
  rw [← Bool.not_eq_true, rightB_iff]; exact fun H => h (H i hi)

theorem okAt_cons (x : Int) (t : List Int) (i : Nat) (hi : 0 < i) : okAt (x :: t) (i + 1) ↔ okAt t i := by
  unfold okAt
  have e : i + 1 - 1 = (i - 1) + 1 := by omega
  rw [e, List.getD_cons_succ, List.getD_cons_succ]
  simp [hi]

theorem right_tail {x : Int} {t : List Int} (h : rightB (x :: t) = true) : rightB t = true := by
  rw [rightB_iff] at h ⊢
  intro i hi
  rcases Nat.eq_zero_or_pos i with rfl | hp
  · have h1 := h 1 (by simp; omega)
    have h0 := h 0 (by simp)
    unfold okAt at h1 h0 ⊢
    simp at h1 h0 ⊢
    omega
  · exact (okAt_cons x t i hp).1 (h (i + 1) (by simp; omega))

theorem right_head {x : Int} {t : List Int} (h : rightB (x :: t) = true) : 0 ≤ x ∧ x ≤ 255 := by
  rw [rightB_iff] at h
  have h0 := h 0 (by simp)
  unfold okAt at h0; simp at h0; omega

theorem right_below {x : Int} {t : List Int} (h : rightB (x :: t) = true) : ∀ y ∈ t, x < y := by
  induction t generalizing x with
  | nil => intro y hy; cases hy
  | cons z t ih =>
    have hz : x < z := by
      rw [rightB_iff] at h
      have h1 := h 1 (by simp)
      unfold okAt at h1; simp at h1; omega
    intro y hy
    rcases List.mem_cons.1 hy with rfl | hy
    · exact hz
    · have := ih (right_tail h) y hy
      omega

theorem right_cons {x : Int} {t : List Int} (hx : 0 ≤ x ∧ x ≤ 255) (ht : rightB t = true) (hb : ∀ y ∈ t, x < y) : rightB (x :: t) = true := by
  rw [rightB_iff] at ht ⊢
  intro i hi
  rcases Nat.eq_zero_or_pos i with rfl | hp
  · unfold okAt; simp; exact hx
  · obtain ⟨j, rfl⟩ : ∃ j, i = j + 1 := ⟨i - 1, by omega⟩
    have hj : j < t.length := by simpa using hi
    have hk := ht j hj
    rcases Nat.eq_zero_or_pos j with rfl | hjp
    · have := hb (t.getD 0 0) (by simp [List.getD, hj])
      unfold okAt at hk ⊢
      simp at hk this ⊢
      omega
    · exact (okAt_cons x t j hjp).2 hk

theorem right_mem {l : List Int} (h : rightB l = true) : ∀ n ∈ l, 0 ≤ n ∧ n ≤ 255 := by
  induction l with
  | nil => intro n hn; cases hn
  | cons x t ih =>
    intro n hn
    rcases List.mem_cons.1 hn with rfl | hn
    · exact right_head h
    · exact ih (right_tail h) n hn

/-- two sets with the same numbers are one -/
theorem right_ext {a b : List Int} (ha : rightB a = true) (hb : rightB b = true) (h : ∀ n, n ∈ a ↔ n ∈ b) : a = b := by
  induction a generalizing b with
  | nil =>
    cases b with
    | nil => rfl
    | cons y t => exact absurd ((h y).2 (by simp)) (by simp)
  | cons x s ih =>
    cases b with
    | nil => exact absurd ((h x).1 (by simp)) (by simp)
    | cons y t =>
      have hxy : x = y := by
        have h1 := (h x).1 (by simp)
        have h2 := (h y).2 (by simp)
        rcases List.mem_cons.1 h1 with e | e
        · exact e
        · rcases List.mem_cons.1 h2 with e' | e'
          · exact e'.symm
          · have := right_below hb x e; have := right_below ha y e'; omega
      subst hxy
      rw [ih (right_tail ha) (right_tail hb) fun n => ?_]
      constructor
      · intro hn
        rcases List.mem_cons.1 ((h n).1 (List.mem_cons_of_mem _ hn)) with e | e
        · subst e; have := right_below ha n hn; omega
        · exact e
      · intro hn
        rcases List.mem_cons.1 ((h n).2 (List.mem_cons_of_mem _ hn)) with e | e
        · subst e; have := right_below hb n hn; omega
        · exact e

/-- the numbers from m up to below m + k that p says yes to -/
def pickN (p : Int → Bool) : Nat → Nat → List Int
  | _, 0 => []
  | m, k + 1 => if p m then (m : Int) :: pickN p (m + 1) k else pickN p (m + 1) k
def pickL (p : Int → Bool) : List Int := pickN p 0 256

theorem mem_pickN (p : Int → Bool) (n : Int) : ∀ (k m : Nat), n ∈ pickN p m k ↔ ((m : Int) ≤ n ∧ n < m + k ∧ p n = true)
  | 0, m => by simp [pickN]; omega
  | k + 1, m => by
    have ih := mem_pickN p n k (m + 1)
    unfold pickN
    by_cases hn : n = m
    · subst hn
      by_cases hp : p m = true
      · simp [hp]; omega
      · simp [hp, ih]
    · split
      · rw [List.mem_cons, ih]
        constructor
        · rintro (e | e)
          · exact absurd e hn
          · refine ⟨by omega, by omega, e.2.2⟩
        · intro e; right; exact ⟨by omega, by omega, e.2.2⟩
      · rw [ih]
        constructor
        · intro e; exact ⟨by omega, by omega, e.2.2⟩
        · intro e; exact ⟨by omega, by omega, e.2.2⟩

theorem mem_pickL (p : Int → Bool) (n : Int) : n ∈ pickL p ↔ (0 ≤ n ∧ n ≤ 255 ∧ p n = true) := by
  unfold pickL
  rw [mem_pickN]
  constructor
  · intro h; exact ⟨by omega, by omega, h.2.2⟩
  · intro h; exact ⟨by omega, by omega, h.2.2⟩

theorem right_pickN (p : Int → Bool) : ∀ (k m : Nat), m + k ≤ 256 → rightB (pickN p m k) = true
  | 0, m, _ => by simp [pickN, rightB]
  | k + 1, m, h => by
    have ih := right_pickN p k (m + 1) (by omega)
    unfold pickN
    split
    · refine right_cons (by omega) ih fun y hy => ?_
      have := (mem_pickN p y k (m + 1)).1 hy
      omega
    · exact ih

theorem right_pickL (p : Int → Bool) : rightB (pickL p) = true := right_pickN p 256 0 (by omega)

theorem length_pickN (p : Int → Bool) : ∀ (k m : Nat), (pickN p m k).length ≤ k
  | 0, _ => by simp [pickN]
  | k + 1, m => by
    have ih := length_pickN p k (m + 1)
    unfold pickN
    split
    · simp; omega
    · omega
theorem length_pickL (p : Int → Bool) : (pickL p).length ≤ 256 := length_pickN p 256 0

theorem pickN_snoc (p : Int → Bool) : ∀ (k m : Nat), pickN p m (k + 1) = pickN p m k ++ (if p ((m + k : Nat) : Int) then [((m + k : Nat) : Int)] else [])
  | 0, m => by simp [pickN]
  | k + 1, m => by
    have ih := pickN_snoc p k (m + 1)
    rw [pickN, ih]
    conv => rhs; rw [pickN]
    have e : m + 1 + k = m + (k + 1) := by omega
    rw [e]
    split <;> simp

theorem pickL_congr {p q : Int → Bool} (h : ∀ n, 0 ≤ n → n ≤ 255 → p n = q n) : pickL p = pickL q :=
  right_ext (right_pickL p) (right_pickL q) fun n => by
    rw [mem_pickL, mem_pickL]
    constructor
    · intro e; exact ⟨e.1, e.2.1, by rw [← h n e.1 e.2.1]; exact e.2.2⟩
    · intro e; exact ⟨e.1, e.2.1, by rw [h n e.1 e.2.1]; exact e.2.2⟩

theorem right_pick {l : List Int} (h : rightB l = true) : pickL (fun n => l.contains n) = l :=
  right_ext (right_pickL _) h fun n => by
    rw [mem_pickL, List.contains_iff_mem]
    constructor
    · intro e; exact e.2.2
    · intro e; have := right_mem h n e; exact ⟨this.1, this.2, e⟩

def inB (xs : List Int) (v : Int) : Bool := xs.contains v

/-- what the document says of two sets: 0 either, 1 both, 2 the first alone -/
def keeps (how : Nat) (a b : List Int) (n : Int) : Bool :=
  if how = 0 then a.contains n || b.contains n else if how = 1 then a.contains n && b.contains n else a.contains n && !b.contains n
def whichL (how : Nat) (a b : List Int) : List Int := if rightB a && rightB b then pickL (keeps how a b) else []
def joinL (a b : List Int) : List Int := whichL 0 a b
def meetL (a b : List Int) : List Int := whichL 1 a b
def lessL (a b : List Int) : List Int := whichL 2 a b
def hasB (a : List Int) (n : Int) : Bool := rightB a && a.contains n
def partB (a b : List Int) : Bool := rightB a && rightB b && a.all fun n => b.contains n
def apartB (a b : List Int) : Bool := rightB a && rightB b && a.all fun n => !b.contains n

theorem right_whichL (how : Nat) (a b : List Int) : rightB (whichL how a b) = true := by
  unfold whichL; split
  · exact right_pickL _
  · simp [rightB]
theorem length_whichL (how : Nat) (a b : List Int) : (whichL how a b).length ≤ 256 := by
  unfold whichL; split
  · exact length_pickL _
  · simp

theorem whichL_wrong {how : Nat} {a b : List Int} (h : (rightB a && rightB b) = false) : whichL how a b = [] := by
  unfold whichL; rw [h]; rfl

theorem mem_joinL {a b : List Int} (ha : rightB a = true) (hb : rightB b = true) (n : Int) : n ∈ joinL a b ↔ n ∈ a ∨ n ∈ b := by
  unfold joinL whichL
  rw [ha, hb]
  simp only [Bool.and_self, if_true, mem_pickL, keeps, Bool.or_eq_true, List.contains_iff_mem]
  constructor
  · exact fun h => h.2.2
  · intro h
    have : 0 ≤ n ∧ n ≤ 255 := by exact h.elim (right_mem ha n) (right_mem hb n)
    exact ⟨this.1, this.2, h⟩
theorem mem_meetL {a b : List Int} (ha : rightB a = true) (hb : rightB b = true) (n : Int) : n ∈ meetL a b ↔ n ∈ a ∧ n ∈ b := by
  unfold meetL whichL
  rw [ha, hb]
  simp only [Bool.and_self, if_true, mem_pickL, keeps]
  simp only [Nat.one_ne_zero, if_false, Bool.and_eq_true, List.contains_iff_mem]
  constructor
  · exact fun h => h.2.2
  · intro h; have := right_mem ha n h.1; exact ⟨this.1, this.2, h⟩
theorem mem_lessL {a b : List Int} (ha : rightB a = true) (hb : rightB b = true) (n : Int) : n ∈ lessL a b ↔ n ∈ a ∧ n ∉ b := by
  unfold lessL whichL
  rw [ha, hb]
  simp only [Bool.and_self, if_true, mem_pickL, keeps]
  have e2 : ¬ (2 : Nat) = 0 := by omega
  have e1 : ¬ (2 : Nat) = 1 := by omega
  simp only [e2, e1, if_false, Bool.and_eq_true, List.contains_iff_mem, Bool.not_eq_true', ← Bool.not_eq_true]
  constructor
  · exact fun h => h.2.2
  · intro h; have := right_mem ha n h.1; exact ⟨this.1, this.2, h⟩

theorem right_joinL (a b : List Int) : rightB (joinL a b) = true := right_whichL 0 a b
theorem right_meetL (a b : List Int) : rightB (meetL a b) = true := right_whichL 1 a b
theorem right_lessL (a b : List Int) : rightB (lessL a b) = true := right_whichL 2 a b

/-- P1.1: Part is told by the count of the Meet -/
theorem length_le_of_sub {a b : List Int} (ha : rightB a = true) (hb : rightB b = true) (h : ∀ n ∈ a, n ∈ b) : a.length ≤ b.length := by
  induction a generalizing b with
  | nil => simp
  | cons x s ih =>
    induction b with
    | nil => exact absurd (h x (by simp)) (by simp)
    | cons y t iht =>
      by_cases hxy : x = y
      · subst hxy
        have := ih (right_tail ha) (right_tail hb) fun n hn => by
          rcases List.mem_cons.1 (h n (List.mem_cons_of_mem _ hn)) with e | e
          · subst e; have := right_below ha n hn; omega
          · exact e
        simp; omega
      · have hyx : y < x := by
          rcases List.mem_cons.1 (h x (by simp)) with e | e
          · exact absurd e hxy
          · exact right_below hb x e
        have := iht (right_tail hb) fun n hn => by
          rcases List.mem_cons.1 (h n hn) with e | e
          · subst e
            rcases List.mem_cons.1 hn with e' | e'
            · exact absurd e'.symm hxy
            · have := right_below ha n e'; omega
          · exact e
        simp at this ⊢; omega

theorem eq_of_sub_length {a b : List Int} (ha : rightB a = true) (hb : rightB b = true) (h : ∀ n ∈ a, n ∈ b) (hl : b.length ≤ a.length) : a = b := by
  induction a generalizing b with
  | nil => exact (List.eq_nil_of_length_eq_zero (by simpa using hl)).symm
  | cons x s ih =>
    cases b with
    | nil => exact absurd (h x (by simp)) (by simp)
    | cons y t =>
      by_cases hxy : x = y
      · subst hxy
        rw [ih (right_tail ha) (right_tail hb) (fun n hn => by
          rcases List.mem_cons.1 (h n (List.mem_cons_of_mem _ hn)) with e | e
          · subst e; have := right_below ha n hn; omega
          · exact e) (by simpa using hl)]
      · have hyx : y < x := by
          rcases List.mem_cons.1 (h x (by simp)) with e | e
          · exact absurd e hxy
          · exact right_below hb x e
        have := length_le_of_sub ha (right_tail hb) fun n hn => by
          rcases List.mem_cons.1 (h n hn) with e | e
          · subst e
            rcases List.mem_cons.1 hn with e' | e'
            · exact absurd e'.symm hxy
            · have := right_below ha n e'; omega
          · exact e
        simp at this hl; omega

theorem part_length (a b : List Int) : partB a b = (rightB a && rightB b && decide ((meetL a b).length = a.length)) := by
  unfold partB
  by_cases ha : rightB a = true
  · by_cases hb : rightB b = true
    · rw [ha, hb]
      simp only [Bool.and_self, Bool.true_and]
      rw [Bool.eq_iff_iff]
      simp only [List.all_eq_true, List.contains_iff_mem, decide_eq_true_eq]
      constructor
      · intro h
        have : meetL a b = a := right_ext (right_meetL a b) ha fun n => by
          rw [mem_meetL ha hb]; exact ⟨fun e => e.1, fun e => ⟨e, h n e⟩⟩
        rw [this]
      · intro h n hn
        have e := eq_of_sub_length (right_meetL a b) ha (fun n hn => ((mem_meetL ha hb n).1 hn).1) (by omega)
        rw [← e] at hn
        exact ((mem_meetL ha hb n).1 hn).2
    · simp [hb]
  · simp [ha]
theorem apart_length (a b : List Int) : apartB a b = (rightB a && rightB b && decide ((meetL a b).length = 0)) := by
  unfold apartB
  by_cases ha : rightB a = true
  · by_cases hb : rightB b = true
    · rw [ha, hb]
      simp only [Bool.and_self, Bool.true_and]
      rw [Bool.eq_iff_iff]
      simp only [List.all_eq_true, Bool.not_eq_true', ← Bool.not_eq_true, List.contains_iff_mem, decide_eq_true_eq]
      constructor
      · intro h
        have : meetL a b = [] := List.eq_nil_iff_forall_not_mem.2 fun n hn => h n ((mem_meetL ha hb n).1 hn).1 ((mem_meetL ha hb n).1 hn).2
        rw [this]; rfl
      · intro h n hn hnb
        have e := List.eq_nil_of_length_eq_zero h
        have := (mem_meetL ha hb n).2 ⟨hn, hnb⟩
        rw [e] at this; cases this
    · simp [hb]
  · simp [ha]

end Go.Proofs.Ytimgdlddfnglaaa

namespace Go.Proofs.Ytimgdlddfnglaaa

/-- a thing: its kind, what it is part of, its tag -/
structure Th where
  kind : Int
  up : Int
  tag : ByteArray
def th0 : Th := ⟨0, 0, ⟨#[]⟩⟩
abbrev Gr := List Th
def gk (g : Gr) (i : Nat) : Int := (g.getD i th0).kind
def gu (g : Gr) (i : Nat) : Int := (g.getD i th0).up
def gt (g : Gr) (i : Nat) : ByteArray := (g.getD i th0).tag

def tagC (c : UInt8) : Bool := (97 ≤ c.toNat && c.toNat ≤ 122) || (48 ≤ c.toNat && c.toNat ≤ 57)
def tagB (s : ByteArray) : Bool := s.data.toList.all tagC && decide (s.size ≤ 16)
/-- thing i stands where it may -/
def okT (g : Gr) (i : Nat) : Prop :=
  if i = 0 then gk g 0 = 0 ∧ gu g 0 = -1 ∧ (gt g 0).size = 0 else
    0 ≤ gu g i ∧ gu g i < i ∧ ((gt g i).size = 0 ∨ gk g i = 2) ∧ tagB (gt g i) = true ∧
      ((gk g i = 1 ∧ gk g (gu g i).toNat = 0) ∨ (gk g i = 2 ∧ gk g (gu g i).toNat < 2) ∨ ((gk g i = 3 ∨ gk g i = 4) ∧ gk g (gu g i).toNat = 2))
instance (g : Gr) (i : Nat) : Decidable (okT g i) := by unfold okT; infer_instance
def rightG (g : Gr) : Bool := decide (g ≠ [] ∧ g.length ≤ 256 ∧ ∀ i, i < g.length → okT g i)

/-- the parent's number -/
def par (g : Gr) (k : Nat) : Nat := (gu g k).toNat
/-- is n the thing k, or is k a part of it: up the chain, as far as n -/
def overF (g : Gr) (n : Nat) : Nat → Nat → Bool
  | 0, k => k == n
  | f + 1, k => if n < k then overF g n f (par g k) else k == n
def overG (g : Gr) (n k : Nat) : Bool := overF g n k k

structure RightG (g : Gr) : Prop where
  pos : 0 < g.length
  few : g.length ≤ 256
  top : gk g 0 = 0 ∧ gu g 0 = -1
  up : ∀ i, 0 < i → i < g.length → 0 ≤ gu g i ∧ par g i < i
  kind : ∀ i, 0 < i → i < g.length → (gk g i = 1 ∧ gk g (par g i) = 0) ∨ (gk g i = 2 ∧ gk g (par g i) < 2) ∨ ((gk g i = 3 ∨ gk g i = 4) ∧ gk g (par g i) = 2)
theorem rightG_is {g : Gr} (h : rightG g = true) : RightG g := by
  unfold rightG at h
  rw [decide_eq_true_eq] at h
  obtain ⟨h1, h2, h3⟩ := h
  have h0 := h3 0 (List.length_pos_iff.2 h1)
  unfold okT at h0
  rw [if_pos rfl] at h0
  refine ⟨List.length_pos_iff.2 h1, h2, ⟨h0.1, h0.2.1⟩, fun i hi hl => ?_, fun i hi hl => ?_⟩
  all_goals
    have := h3 i hl
    unfold okT at this
    rw [if_neg (by omega)] at this
  · unfold par; omega
  · exact this.2.2.2.2
section
variable {g : Gr} (hg : RightG g) {n k m : Nat}
include hg
theorem RightG.kinds (hk : k < g.length) : 0 ≤ gk g k ∧ gk g k ≤ 4 := by
  rcases Nat.eq_zero_or_pos k with h | h
  · subst h; have := hg.top.1; omega
  · rcases hg.kind k h hk with h | h | h <;> omega
/-- more steps than are needed change nothing -/
theorem overF_more : ∀ (f : Nat) (k : Nat), k < g.length → k ≤ f → overF g n f k = overF g n k k := by
  have hg' := hg
  intro f
  induction f using Nat.strongRecOn with
  | _ f ih =>
    intro k hk hf
    rcases Nat.eq_zero_or_pos k with h | h
    · subst h
      cases f with
      | zero => rfl
      | succ f => show (if n < 0 then _ else (0 == n)) = (0 == n); rw [if_neg (by omega)]
    · obtain ⟨f', rfl⟩ : ∃ f', f = f' + 1 := ⟨f - 1, by omega⟩
      obtain ⟨k', rfl⟩ : ∃ k', k = k' + 1 := ⟨k - 1, by omega⟩
      have hp := (hg.up (k' + 1) (by omega) hk).2
      show (if n < k' + 1 then overF g n f' (par g (k' + 1)) else _) = (if n < k' + 1 then overF g n k' (par g (k' + 1)) else _)
      split
      · rw [ih f' (by omega) _ (by omega) (by omega)]
        by_cases hkf : k' = f'
        · subst hkf; rw [ih k' (by omega) _ (by omega) (by omega)]
        · rw [ih k' (by omega) _ (by omega) (by omega)]
      · rfl
/-- up one step -/
theorem over_up (hk : k < g.length) (h : n < k) : overG g n k = overG g n (par g k) := by
  have hp := (hg.up k (by omega) hk).2
  obtain ⟨k', rfl⟩ : ∃ k', k = k' + 1 := ⟨k - 1, by omega⟩
  show (if n < k' + 1 then overF g n k' (par g (k' + 1)) else _) = _
  rw [if_pos h]
  exact overF_more hg k' (par g (k' + 1)) (by omega) (by omega)
omit hg in
theorem over_end (h : ¬ n < k) : overG g n k = (k == n) := by
  unfold overG
  cases k with
  | zero => rfl
  | succ k => show (if n < k + 1 then _ else _) = _; rw [if_neg h]
omit hg in
theorem over_self : overG g n n = true := by rw [over_end (by omega)]; simp
omit hg in
theorem over_le (h : overG g n k = true) : n ≤ k := by
  by_cases hnk : n < k
  · omega
  · rw [over_end hnk] at h; simp at h; omega
theorem over_zero : ∀ (k : Nat), k < g.length → overG g 0 k = true := by
  intro k
  induction k using Nat.strongRecOn with
  | _ k ih =>
    intro hk
    rcases Nat.eq_zero_or_pos k with h | h
    · subst h; exact over_self
    · rw [over_up hg hk h]
      have := (hg.up k h hk).2
      exact ih _ this (by omega)
/-- what is part of a part is a part -/
theorem over_trans : ∀ (k : Nat), k < g.length → overG g m k = true → overG g n m = true → overG g n k = true := by
  intro k
  induction k using Nat.strongRecOn with
  | _ k ih =>
    intro hk h1 h2
    by_cases hmk : m < k
    · have hp := (hg.up k (by omega) hk).2
      rw [over_up hg hk hmk] at h1
      have hnm := over_le h2
      have hmp := over_le h1
      rw [over_up hg hk (by omega)]
      exact ih _ hp (by omega) h1 h2
    · rw [over_end hmk] at h1
      simp at h1
      subst h1
      exact h2
/-- of two that are over one thing, one is over the other -/
theorem over_chain : ∀ (k : Nat), k < g.length → overG g n k = true → overG g m k = true → n ≤ m → overG g n m = true := by
  intro k
  induction k using Nat.strongRecOn with
  | _ k ih =>
    intro hk h1 h2 hnm
    by_cases hmk : m < k
    · have hp := (hg.up k (by omega) hk).2
      rw [over_up hg hk hmk] at h2
      rw [over_up hg hk (by omega)] at h1
      exact ih _ hp (by omega) h1 h2 hnm
    · rw [over_end hmk] at h2
      simp at h2
      subst h2
      exact h1
end

/-! sets of things -/
def numsF (p : Nat → Bool) (n : Nat) : List Int := ((List.range n).filter p).map Int.ofNat
theorem mem_numsF {p : Nat → Bool} {n : Nat} {x : Int} : x ∈ numsF p n ↔ ∃ k : Nat, k < n ∧ p k = true ∧ x = k := by
  unfold numsF
  rw [List.mem_map]
  constructor
  · rintro ⟨k, hk, rfl⟩
    rw [List.mem_filter, List.mem_range] at hk
    exact ⟨k, hk.1, hk.2, rfl⟩
  · rintro ⟨k, hk, hp, rfl⟩
    exact ⟨k, by rw [List.mem_filter, List.mem_range]; exact ⟨hk, hp⟩, rfl⟩
theorem mem_numsF_nat {p : Nat → Bool} {n k : Nat} : (k : Int) ∈ numsF p n ↔ k < n ∧ p k = true := by
  rw [mem_numsF]
  constructor
  · rintro ⟨j, h1, h2, h3⟩
    obtain rfl : k = j := by omega
    exact ⟨h1, h2⟩
  · rintro ⟨h1, h2⟩
    exact ⟨k, h1, h2, rfl⟩
theorem numsF_succ (p : Nat → Bool) (n : Nat) : numsF p (n + 1) = numsF p n ++ (if p n = true then [(n : Int)] else []) := by
  unfold numsF
  rw [List.range_succ, List.filter_append, List.map_append]
  congr 1
  by_cases h : p n = true
  · rw [if_pos h]; simp [h]
  · rw [if_neg h]; simp [h]
theorem numsF_yes {p : Nat → Bool} {n : Nat} (h : p n = true) : numsF p (n + 1) = numsF p n ++ [(n : Int)] := by rw [numsF_succ, if_pos h]
theorem numsF_no {p : Nat → Bool} {n : Nat} (h : p n = false) : numsF p (n + 1) = numsF p n := by rw [numsF_succ, if_neg (by rw [h]; simp), List.append_nil]
theorem numsF_len (p : Nat → Bool) (n : Nat) : (numsF p n).length ≤ n := by
  unfold numsF
  rw [List.length_map]
  have := List.length_filter_le p (List.range n)
  rw [List.length_range] at this
  exact this
theorem numsF_pick (p : Nat → Bool) (n : Nat) : ∀ (_ : n ≤ 256), numsF p n = pickN (fun x => decide (0 ≤ x) && p x.toNat) 0 n := by
  intro hn
  induction n with
  | zero => rfl
  | succ n ih =>
    rw [numsF_succ, pickN_snoc, ih (by omega)]
    simp
theorem numsF_right (p : Nat → Bool) {n : Nat} (hn : n ≤ 256) : rightB (numsF p n) = true := by
  rw [numsF_pick p n hn]; exact right_pickN _ n 0 (by omega)
theorem numsF_ext {p q : Nat → Bool} {n : Nat} (h : ∀ k, k < n → p k = q k) : numsF p n = numsF q n := by
  unfold numsF
  congr 1
  exact List.filter_congr fun k hk => h k (List.mem_range.1 hk)

/-- thing n and all that is part of it; n and what it is part of -/
def underL (g : Gr) (n : Int) : List Int := if rightG g = true ∧ 0 ≤ n ∧ n < g.length then numsF (overG g n.toNat) g.length else []
def aboveL (g : Gr) (n : Int) : List Int := if rightG g = true ∧ 0 ≤ n ∧ n < g.length then numsF (fun k => overG g k n.toNat) (n.toNat + 1) else []
def nodeG (g : Gr) (n : Int) : Int :=
  if rightG g = true ∧ 0 ≤ n ∧ n < g.length then (if gk g n.toNat = 2 then n else if 2 < gk g n.toNat then gu g n.toNat else -1) else -1
def nodesL (g : Gr) : List Int := if rightG g = true then numsF (fun k => gk g k == 2) g.length else []
/-- how many of the first n things are in the set and of this kind -/
def cntK (g : Gr) (l : List Int) (c : Int) (n : Nat) : Nat := ((List.range n).filter fun k : Nat => hasB l (k : Int) && gk g k == c).length
def kc (g : Gr) (l : List Int) (c : Int) : Int := if rightG g = true then (cntK g l c g.length : Int) else 0
theorem cntK_succ (g : Gr) (l : List Int) (c : Int) (n : Nat) : cntK g l c (n + 1) = cntK g l c n + (if hasB l n = true ∧ gk g n = c then 1 else 0) := by
  unfold cntK
  rw [List.range_succ, List.filter_append, List.length_append]
  congr 1
  by_cases h : hasB l n = true ∧ gk g n = c
  · rw [if_pos h]; simp [h.1, h.2]
  · rw [if_neg h]
    rw [List.filter_eq_nil_iff.2]
    · rfl
    · intro x hx
      simp at hx
      subst hx
      intro h'
      rw [Bool.and_eq_true, beq_iff_eq] at h'
      exact h h'
theorem cntK_le (g : Gr) (l : List Int) (c : Int) (n : Nat) : cntK g l c n ≤ n := by
  unfold cntK
  have := List.length_filter_le (fun k : Nat => hasB l (k : Int) && gk g k == c) (List.range n)
  rw [List.length_range] at this
  exact this
/-- is a thing above one of the set? -/
def anyOver (g : Gr) (l : List Int) (n : Nat) : Bool := l.any fun x => overG g n x.toNat
def wholeOk (g : Gr) (l : List Int) : Bool := rightG g && rightB l && decide (∀ x ∈ l, x < g.length)
def wholeL (g : Gr) (l : List Int) : List Int := if wholeOk g l = true then numsF (anyOver g l) g.length else []

end Go.Proofs.Ytimgdlddfnglaaa

namespace Go.Proofs.Ytimgdlddfnglaaa
open Go.RowKit

def nearZ (x : Int) : Int := if x < 0 then 0 else if 4611686018427387904 < x then 4611686018427387904 else x
def plusZ (t l : Int) : Int := if 4611686018427387904 < nearZ t + nearZ l then 4611686018427387904 else nearZ t + nearZ l
theorem nearZ_range (x : Int) : 0 ≤ nearZ x ∧ nearZ x ≤ 4611686018427387904 := by unfold nearZ; repeat' split; all_goals omega



end Go.Proofs.Ytimgdlddfnglaaa
