/- When a job could begin, and where, in plain words. No program's text is walked here. Words for memory: a slice of those who would begin. Written by gen/gen_slot.py. How layer 13's arguments are opened: a graph, numbers, a table of holdings, a spec, a list of those who would begin. Written by hand. What the frames of statements that list the library's tables share: the tables out of the row's list; the wrap that hands on both the list and the world's shape. No condition of its own. What the calls of layer 10 answer, in words for memory; tables that can be looked at whole. Plain words for layer 5's walks: strings that are tags, where a graph breaks off, a number appended. What set.packBoth answers: of two lists of int that are sets the words of both, else none. What set.Join, Meet, Less, Has, Part and Apart answer: of two lists of int, what the document says of sets; the table of trailing zeros as Go's text lays it. What set.Part, Apart and Has, and the reference's Has and Which answer: of lists of int, what the document says of sets. The program's sets, and the reference's, in one form: what each call answers of lists of int; all that was there is kept. -/
import Derived.Test.YtpoalgkgomljmaaDoorMg02
import Derived.Test.YtpoalgkgomljmaaDoorMg04
import Derived.Test.YtpoalgkgomljmaaDoorMg03
import Derived.Test.YtpoalgkgomljmaaDoorTie
import Derived.Lib.LaidTab
import Derived.LaidMore
import Derived.Lay
import Derived.SevenTiedAt
import Derived.Stop.Joined
import Derived.Test.YtpoalgkgomljmaaDoorMg01
import Derived.Deep.DeepCutAuto
namespace Go.Proofs.YtpoalgkgomljmaaDoor

/-- what may be used, less what is busy in a span -/
def freeS (use : List Int) (l : Tb) (a b : Int) : List Int := lessL use (busyT l a b)
/-- a job fits at a time -/
def FitsS (g : Gr) (use : List Int) (l : Tb) (s : Sp) (until' t : Int) : Prop :=
  (0 ≤ t ∧ t < 4611686018427387904) ∧ rightT l = true ∧ rightB use = true ∧ endsS s t ≤ until' ∧ hadB g (freeS use l t (endsS s t)) s = true
instance (g : Gr) (use : List Int) (l : Tb) (s : Sp) (until' t : Int) : Decidable (FitsS g use l s until' t) := by unfold FitsS; infer_instance
/-- what it gets then -/
def gotS (g : Gr) (use : List Int) (l : Tb) (s : Sp) (until' t : Int) : List Int := if FitsS g use l s until' t then findL g (freeS use l t (endsS s t)) s else []
/-- the least of a list -/
def leastO : List Int → Option Int
  | [] => none
  | x :: r => match leastO r with
    | none => some x
    | some y => some (if x ≤ y then x else y)
/-- the times that count, from a time on -/
def timesS (l : Tb) (frm : Int) : List Int := frm :: (l.map Hd.to).filter fun t => decide (frm < t)
def firstS (g : Gr) (use : List Int) (l : Tb) (s : Sp) (frm until' : Int) : Option Int := leastO ((timesS l frm).filter fun t => decide (FitsS g use l s until' t))
/-- the first slot: when, what it gets, and whether there is one -/
def firstAtS (g : Gr) (use : List Int) (l : Tb) (s : Sp) (frm until' : Int) : Int := (firstS g use l s frm until').getD 0
def firstLS (g : Gr) (use : List Int) (l : Tb) (s : Sp) (frm until' : Int) : List Int := match firstS g use l s frm until' with
  | none => []
  | some t => gotS g use l s until' t
def firstBS (g : Gr) (use : List Int) (l : Tb) (s : Sp) (frm until' : Int) : Bool := (firstS g use l s frm until').isSome

section
variable {g : Gr} {use more : List Int} {l : Tb} {s : Sp} {frm until' t u : Int}
theorem leastO_some : ∀ {l : List Int} {t : Int}, leastO l = some t ↔ t ∈ l ∧ ∀ u ∈ l, t ≤ u
  | [], t => by simp [leastO]
  | x :: r, t => by
    have ih := @leastO_some r
    unfold leastO
    cases h : leastO r with
    | none =>
      have hr : r = [] := by
        cases r with
        | nil => rfl
        | cons y q => simp only [leastO] at h; split at h <;> cases h
      subst hr
      simp only [Option.some.injEq, List.mem_singleton]
      constructor
      · rintro rfl; exact ⟨rfl, fun u hu => by rw [hu]; exact Int.le_refl _⟩
      · rintro ⟨e, _⟩; exact e.symm
    | some y =>
      have h1 := ih.1 h
      simp only [Option.some.injEq, List.mem_cons]
      by_cases hxy : x ≤ y
      · rw [if_pos hxy]
        constructor
        · rintro rfl
          exact ⟨.inl rfl, fun u hu => by
            rcases hu with rfl | hu
            · exact Int.le_refl _
            · have := h1.2 u hu; omega⟩
        · rintro ⟨h2, h3⟩
          have h4 := h3 x (.inl rfl)
          rcases h2 with h2 | h2
          · exact h2.symm
          · have := h1.2 t h2; omega
      · rw [if_neg hxy]
        constructor
        · rintro rfl
          exact ⟨.inr h1.1, fun u hu => by
            rcases hu with rfl | hu
            · omega
            · exact h1.2 u hu⟩
        · rintro ⟨h2, h3⟩
          have h4 := h3 y (.inr h1.1)
          rcases h2 with h2 | h2
          · omega
          · have := h1.2 t h2; omega
theorem leastO_none {l : List Int} : leastO l = none ↔ l = [] := by
  cases l with
  | nil => simp [leastO]
  | cons x r =>
    unfold leastO
    split <;> simp
theorem mem_timesS : u ∈ timesS l frm ↔ u = frm ∨ (frm < u ∧ ∃ x ∈ l, x.to = u) := by
  unfold timesS
  rw [List.mem_cons, List.mem_filter, List.mem_map, decide_eq_true_eq]
  exact ⟨fun h => h.imp id fun h => ⟨h.2, h.1⟩, fun h => h.imp id fun h => ⟨h.2, h.1⟩⟩
theorem firstS_some : firstS g use l s frm until' = some t ↔ (t ∈ timesS l frm ∧ FitsS g use l s until' t) ∧ ∀ u ∈ timesS l frm, FitsS g use l s until' u → t ≤ u := by
  unfold firstS
  rw [leastO_some, List.mem_filter, decide_eq_true_eq]
  exact ⟨fun h => ⟨h.1, fun u hu hf => h.2 u (List.mem_filter.2 ⟨hu, decide_eq_true hf⟩)⟩, fun h => ⟨h.1, fun u hu => h.2 u (List.mem_filter.1 hu).1 (of_decide_eq_true (List.mem_filter.1 hu).2)⟩⟩
theorem firstS_none : firstS g use l s frm until' = none ↔ ∀ u ∈ timesS l frm, ¬ FitsS g use l s until' u := by
  unfold firstS
  rw [leastO_none, List.filter_eq_nil_iff]
  exact ⟨fun h u hu hf => h u hu (decide_eq_true hf), fun h u hu hf => h u hu (of_decide_eq_true hf)⟩
theorem firstS_from (h : firstS g use l s frm until' = some t) : frm ≤ t := by
  rcases mem_timesS.1 (firstS_some.1 h).1.1 with e | e
  · omega
  · omega

/-! what more of it does -/
theorem endsS_rise (h : t ≤ u) : endsS s t ≤ endsS s u := by unfold endsS; exact plus_rise h
theorem endsS_after (hr : rightS s = true) (h0 : 0 ≤ t) (h1 : t < 4611686018427387904) : t < endsS s t := by
  have h2 := rightS_is hr
  unfold endsS plusZ nearZ
  rw [if_pos hr]
  repeat' split
  all_goals omega
theorem endsS_never (h0 : 0 ≤ t) : endsS s t ≤ 4611686018427387904 := by
  unfold endsS plusZ nearZ
  repeat' split
  all_goals omega
theorem fits_spec (h : FitsS g use l s until' t) : rightG g = true ∧ rightS s = true := by
  have := mayB_is (hadB_is.1 h.2.2.2.2).1
  exact ⟨this.1, this.2.2⟩
theorem had_sub {F F' : List Int} (hF : rightB F = true) (hF' : rightB F' = true) (h : ∀ x ∈ F, x ∈ F') (hh : hadB g F s = true) : hadB g F' s = true :=
  had_mono hF' (fun _ _ hx => (has_iff hF').2 (h _ ((has_iff hF).1 hx))) hh
theorem mem_freeS (hu : rightB use = true) {a b n : Int} : n ∈ freeS use l a b ↔ n ∈ use ∧ n ∉ busyT l a b := mem_lessL hu (busy_right _ _) n
theorem freeS_right {a b : Int} : rightB (freeS use l a b) = true := right_lessL _ _
/-- with more that may be used -/
theorem fits_more (hm : rightB more = true) (h : FitsS g use l s until' t) : FitsS g (joinL use more) l s until' t := by
  obtain ⟨h1, h2, h3, h4, h5⟩ := h
  refine ⟨h1, h2, right_whichL 0 _ _, h4, had_sub freeS_right freeS_right (fun x hx => ?_) h5⟩
  rw [mem_freeS h3] at hx
  rw [mem_freeS (use := joinL use more) (right_whichL 0 use more)]
  exact ⟨(mem_joinL h3 hm x).2 (.inl hx.1), hx.2⟩
/-- till a later time -/
theorem fits_until {v : Int} (hv : until' ≤ v) (h : FitsS g use l s until' t) : FitsS g use l s v t := ⟨h.1, h.2.1, h.2.2.1, by have := h.2.2.2.1; omega, h.2.2.2.2⟩
theorem fits_earlier {v : Int} (h : FitsS g use l s v t) (he : endsS s t ≤ until') : FitsS g use l s until' t := ⟨h.1, h.2.1, h.2.2.1, he, h.2.2.2.2⟩
/-- where nothing is held it fits at any time ahead -/
theorem fits_empty (h : FitsS g use l s until' t) (h0 : 0 ≤ u) (hu : u ≤ t) : FitsS g use [] s until' u := by
  obtain ⟨h1, h2, h3, h4, h5⟩ := h
  refine ⟨⟨h0, by omega⟩, rfl, h3, by have := endsS_rise (s := s) hu; omega, had_sub freeS_right freeS_right (fun x hx => ?_) h5⟩
  rw [mem_freeS h3] at hx ⊢
  refine ⟨hx.1, fun hb => ?_⟩
  obtain ⟨y, hy, _⟩ := (mem_busy rfl).1 hb
  cases hy
theorem timesS_nil : timesS [] frm = [frm] := rfl
theorem firstS_nil : firstS g use [] s frm until' = if FitsS g use [] s until' frm then some frm else none := by
  by_cases h : FitsS g use [] s until' frm
  · rw [if_pos h]
    refine firstS_some.2 ⟨⟨mem_timesS.2 (.inl rfl), h⟩, fun u hu _ => ?_⟩
    rcases mem_timesS.1 hu with e | ⟨_, x, hx, _⟩
    · omega
    · cases hx
  · rw [if_neg h]
    refine firstS_none.2 fun u hu hf => ?_
    rcases mem_timesS.1 hu with e | ⟨_, x, hx, _⟩
    · subst e; exact h hf
    · cases hx
/-- what is got may be used, is busy nowhere in the span, and may be held -/
theorem gotS_is (h : FitsS g use l s until' t) : gotS g use l s until' t = findL g (freeS use l t (endsS s t)) s := if_pos h
theorem gotS_part (h : FitsS g use l s until' t) : partB (gotS g use l s until' t) use = true := by
  have hg := (fits_spec h).1
  have h1 := (part_iff (findL_right hg) freeS_right).1 (find_part h.2.2.2.2)
  rw [gotS_is h, part_iff (findL_right hg) h.2.2.1]
  exact fun x hx => ((mem_freeS h.2.2.1).1 (h1 x hx)).1
theorem gotS_apart (h : FitsS g use l s until' t) : apartB (gotS g use l s until' t) (busyT l t (endsS s t)) = true := by
  have hg := (fits_spec h).1
  have h1 := (part_iff (findL_right hg) freeS_right).1 (find_part h.2.2.2.2)
  rw [gotS_is h, apart_iff (findL_right hg) (busy_right _ _)]
  exact fun x hx => ((mem_freeS h.2.2.1).1 (h1 x hx)).2
theorem gotS_right (h : FitsS g use l s until' t) : rightB (gotS g use l s until' t) = true := by rw [gotS_is h]; exact findL_right (fits_spec h).1
theorem gotS_no (h : ¬ FitsS g use l s until' t) : gotS g use l s until' t = [] := if_neg h
end

/-! a plan -/
structure Wn where
  id : Int
  spec : Sp
/-- the holding of one that would begin, at its first slot -/
def heldW (g : Gr) (use : List Int) (l : Tb) (w : Wn) (frm until' : Int) : Hd := ⟨w.id, firstLS g use l w.spec frm until', firstAtS g use l w.spec frm until', endsS w.spec (firstAtS g use l w.spec frm until')⟩
/-- from a table so far on: the table, and an error's number -/
def planR (g : Gr) (use : List Int) (frm until' : Int) : Tb → List Wn → Tb × Int
  | out, [] => (out, 0)
  | out, w :: r => if firstBS g use out w.spec frm until' = true then
      (if addE out (heldW g use out w frm until') = 0 then planR g use frm until' (insT out (heldW g use out w frm until')) r else (out, addE out (heldW g use out w frm until')))
    else planR g use frm until' out r
def planE (g : Gr) (use : List Int) (l : Tb) (ws : List Wn) (frm until' : Int) : Int := if rightT l = true then (planR g use frm until' l ws).2 else 1
def planT (g : Gr) (use : List Int) (l : Tb) (ws : List Wn) (frm until' : Int) : Tb := if planE g use l ws frm until' = 0 then (planR g use frm until' l ws).1 else l

end Go.Proofs.YtpoalgkgomljmaaDoor

namespace Go.Proofs.YtpoalgkgomljmaaDoor
open Go.RowKit

def wn0 : Wn := ⟨0, ⟨0, 0, 0, ⟨#[]⟩, false, 0, 0⟩⟩
/-- one who would begin, as an element: eight cells -/
def EWn : Elem Wn := fun _ _ x vs => vs = [.int .i64 x.id, .int .i64 x.spec.nodes, .int .i64 x.spec.cores, .int .i64 x.spec.gpus, .string x.spec.tag, .bool x.spec.whole, .int .i64 x.spec.long, .int .i64 x.spec.prio] ∧ SAsk x.spec ∧ I64 x.id
theorem ewn_steady : Steady EWn := ⟨fun h _ _ => h⟩
def RW (w : World) (B : Nat) (A : Option Addr) (n : Nat) (ws : List Wn) : Prop := RN EWn 8 w (Lt B) A n ws
/-- a list that is asked about -/
structure WnAsk (w : World) (A : Option Addr) (n c : Nat) (ws : List Wn) : Prop where
  reads : RW w w.heap.size A n ws
  nil : A = none → c = 0
  cap : n ≤ c
  few : n ≤ maxLen
section
variable {w w' : World} {n c : Nat} {A : Option Addr} {ws : List Wn}
theorem WnAsk.next (h : WnAsk w A n c ws) (hb : Below w.heap.size w w') : WnAsk w' A n c ws := ⟨RN.next ewn_steady h.reads hb, h.nil, h.cap, h.few⟩
theorem WnAsk.len (h : WnAsk w A n c ws) : ws.length = n := h.reads.1
/-- the k-th -/
theorem WnAsk.one (h : WnAsk w A n c ws) {k : Nat} (hk : k < n) : ∃ b off, A = some ⟨b, off, none⟩ ∧ b < w.heap.size ∧ (w.cell? ⟨b, off + k * 8, none⟩ = some (.int .i64 (ws.getD k wn0).id) ∧ w.cell? ⟨b, off + k * 8 + 1, none⟩ = some (.int .i64 (ws.getD k wn0).spec.nodes) ∧ w.cell? ⟨b, off + k * 8 + 2, none⟩ = some (.int .i64 (ws.getD k wn0).spec.cores) ∧ w.cell? ⟨b, off + k * 8 + 3, none⟩ = some (.int .i64 (ws.getD k wn0).spec.gpus) ∧ w.cell? ⟨b, off + k * 8 + 4, none⟩ = some (.string (ws.getD k wn0).spec.tag) ∧ w.cell? ⟨b, off + k * 8 + 5, none⟩ = some (.bool (ws.getD k wn0).spec.whole) ∧ w.cell? ⟨b, off + k * 8 + 6, none⟩ = some (.int .i64 (ws.getD k wn0).spec.long) ∧ w.cell? ⟨b, off + k * 8 + 7, none⟩ = some (.int .i64 (ws.getD k wn0).spec.prio)) ∧ SAsk (ws.getD k wn0).spec ∧ I64 (ws.getD k wn0).id := by
  have hl : k < ws.length := by rw [h.len]; exact hk
  obtain ⟨b, off, vs, e, hb, _, hc, hv, h5, h6⟩ := RN.at h.reads (List.getElem?_eq_getElem hl)
  subst hv
  have hg : ws.getD k wn0 = ws[k] := by rw [List.getD, List.getElem?_eq_getElem hl]; rfl
  rw [hg]
  exact ⟨b, off, e, hb, ⟨hc 0 _ rfl, hc 1 _ rfl, hc 2 _ rfl, hc 3 _ rfl, hc 4 _ rfl, hc 5 _ rfl, hc 6 _ rfl, hc 7 _ rfl⟩, h5, h6⟩
end

end Go.Proofs.YtpoalgkgomljmaaDoor

namespace Go.Proofs.YtpoalgkgomljmaaDoor
open Go.ChangeShapes Go.WideShapes Go.ChangeAt Go.RowKit Go.Deep

set_option maxRecDepth 100000 in
theorem open_want {H : Type} {enc : TypeId × Value → H} {W : World} {cs : List Value} {x : DataW H × List MemPlace} {fuel : Nat}
    (hl : cs.length = 8) (hf : DataW.trod enc Tryd.prog W 0 (fun _ => true) true fuel 144 cs = some x) : ∃ y, EWn W (Lt W.heap.size) y cs := by
  obtain ⟨ys, n', hn', hy, hlen, hyl, hfs⟩ := DataW.trod_struct Tryd.underlying144 hf
  obtain ⟨v0, v1, v2, v3, v4, v5, v6, v7, rfl⟩ : ∃ v0 v1 v2 v3 v4 v5 v6 v7, cs = [v0, v1, v2, v3, v4, v5, v6, v7] := by
    match cs, hl with
    | [a, b, c, d, e, f, g, h], _ => exact ⟨a, b, c, d, e, f, g, h, rfl⟩
  have ci : Tryd.prog.cellsOf 3 = 1 := by kernel_rfl
  have cp : Tryd.prog.cellsOf 26 = 7 := by kernel_rfl
  have h0 : DataW.trod enc Tryd.prog W 0 (fun _ => true) true n' 3 (List.take (Tryd.prog.cellsOf 3) [v0, v1, v2, v3, v4, v5, v6, v7]) = ys[0]? := hfs 0 _ rfl
  have h1 : DataW.trod enc Tryd.prog W 0 (fun _ => true) true n' 26 (List.take (Tryd.prog.cellsOf 26) [v1, v2, v3, v4, v5, v6, v7]) = ys[1]? := hfs 1 _ rfl
  rw [ci] at h0
  rw [cp] at h1
  obtain ⟨y0, y1, rfl⟩ : ∃ y0 y1, ys = [y0, y1] := by
    match ys, hyl with
    | [a, b], _ => exact ⟨a, b, rfl⟩
  obtain ⟨z0, e0, _, w0⟩ := DataW.trod_int Tryd.underlying3 h0
  obtain ⟨s, e1, hs⟩ := open_spec rfl h1
  simp at e0 e1
  obtain ⟨q1, q2, q3, q4, q5, q6, q7⟩ := e1
  subst e0 q1 q2 q3 q4 q5 q6 q7
  exact ⟨⟨z0, s⟩, rfl, hs, i64_wf w0⟩
set_option maxRecDepth 100000 in
theorem open_WN {H : Type} {enc : TypeId × Value → H} {W : World} {b0 : Nat} {v : Value} {d : DataW H} {ps : List MemPlace}
    (hval : Value.okWide Tryd.prog W .any b0 40 v) (h : DataW.Trod enc Tryd.prog W 0 (fun _ => true) true 40 v d ps) :
    ∃ A n c l, v = .slice A n c ∧ WnAsk W A n c l := by
  obtain ⟨fuel, hf⟩ := h
  obtain ⟨a', n', c', rfl⟩ := okWide_slice Tryd.underlying40 hval
  obtain ⟨A, n, c, xs, e, hr, h1, h2, h3⟩ := open_RN (E := EWn) (C := 8) Tryd.underlying40 (by kernel_rfl) (by omega) (fun n cs y hl ht => open_want hl ht) hf
  simp [Value.cells] at e
  obtain ⟨rfl, rfl, rfl⟩ := e
  exact ⟨_, _, _, xs, rfl, hr, h1, h2, h3⟩

end Go.Proofs.YtpoalgkgomljmaaDoor

namespace Go.Proofs.YtpoalgkgomljmaaDoor
open Go.ChangeShapes Go.WideShapes Go.ChangeAt Go.RowKit

section
variable {H : Type} {enc : TypeId × Value → H} {P : Program}
/-- one of the listed variables, by its place -/
theorem laid_at {w : World} : ∀ {laid : List (String × DataW Unit)} {ps : List MemPlace}, DataW.LaidVars P w laid ps → ∀ (i : Nat) (n : String) (d : DataW Unit), laid[i]? = some (n, d) →
    ∃ g t cs fuel p, P.globalNamed n = some g ∧ (P.globals[g]?).map (·.type) = some t ∧ w.var? P n = some cs ∧ DataW.trod (fun _ => ()) P w 0 (fun _ => true) false fuel t cs.toList = some (d, p)
  | [], _, _, i, n, d, h => by simp at h
  | (m, x) :: r, ps, hl, i, n, d, h => by
    obtain ⟨g, t, cs, fuel, p, q, h1, h2, h3, h4, h5, _⟩ := hl
    cases i with
    | zero =>
      simp only [List.getElem?_cons_zero, Option.some.injEq, Prod.mk.injEq] at h
      obtain ⟨rfl, rfl⟩ := h
      exact ⟨g, t, cs, fuel, p, h1, h2, h3, h4⟩
    | succ i => exact laid_at h5 i n d (by simpa using h)

theorem tabIs_at {W : World} {name : String} {k : IntKind} {zs : List Int} {laid : List (String × DataW Unit)} {g : Nat} {t e : TypeId} {n : Nat}
    (hg : P.globalNamed name = some g) (hty : (P.globals[g]?).map (·.type) = some t) (ht : P.underlying t = some (.array n e)) (he : P.underlying e = some (.int k)) (hce : P.cellsOf e = 1) (hct : P.cellsOf t = n)
    (h : laidMet P laid W) (i : Nat) (hi : laid[i]? = some (name, Lib.tabData k zs)) : Lib.TabIs P W name k zs := by
  obtain ⟨ps, hl, _⟩ := h
  obtain ⟨g', t', cs, fuel, p, hg', ht', hvar, hd⟩ := laid_at hl i _ _ hi
  obtain rfl := Option.some.inj (hg.symm.trans hg')
  obtain rfl := Option.some.inj (hty.symm.trans ht')
  unfold Lib.TabIs
  rw [hvar, ← Lib.cells_of_tab ht he hce hct hd]

/-- the wrap that hands on the list and the world's shape -/
theorem returnsInHanded_of_laid {a : Assume} {C : Checked} {os : Os} {f : FuncId} {fn : Func} {s : ChangeSpec} {conds : List PathCond} {apart fresh handsOn again : Bool} {X : World → Array Value → Prop}
    (hX : ∀ (w w' : World) (args : Array Value), w.heap = w'.heap → X w args → X w' args)
    (own : ownKnob C.prog.godebug = none) (started : os.Started) (noInit : C.prog.inits.idxOf? f = none) (hfn : C.prog.funcs[f]? = some fn)
    (witness : ∃ (w : World) (tape : Tape) (i : Input), w.os = os ∧ (w.forCall tape i).Shaped C.prog ∧ i.vars = [] ∧ Input.okWide C.prog (w.forCall tape i) .any w.heap.size f i ∧
      ((s.pre enc C.prog fn conds apart (w.forCall tape i).memory i.args ∧ X (w.forCall tape i).memory i.args) ∧ sizedMet enc C.prog fn (OpenSpec.ofChange s) apart (w.forCall tape i).memory i.args) ∧ a.holds C.prog (lone (Frame.enter C.prog f i.args .normal) [] (w.forCall tape i)))
    (contract : ∀ (W : World) (base : Nat) (args : Array Value) (ds gs : List (DataW H)) (before : List MemPlace),
      (∀ (j : Nat) t v, fn.params[j]? = some t → args[j]? = some v → Value.okWide C.prog W .any base t v) →
      DataW.Whole enc C.prog fn.params.toList s.vars apart W args.toList ds gs before →
      conds.all (PathCond.test C.prog ⟨fn.params.toList, ds, s.plain.varTypes C.prog, gs⟩) = true →
      X W args → W.ShapedOpen C.prog →
      Calls C.prog f args W fun e W' => ∃ v, e = .returned v ∧ s.post enc C.prog fn apart fresh handsOn again W args v W') :
    ReturnsInHanded a C os f .any (fun w args => (s.pre enc C.prog fn conds apart w args ∧ X w args) ∧ sizedMet enc C.prog fn (OpenSpec.ofChange s) apart w args) (s.post enc C.prog fn apart fresh handsOn again) := by
  refine returnsInHanded_of_calls own started noInit witness ?_
  intro w tape i _ hsh _ hok hpre _
  obtain ⟨_, _, _, fn', hfn', _, _, _, _, hval⟩ := hok
  have e : fn' = fn := Option.some.inj (hfn'.symm.trans hfn)
  subst e
  obtain ⟨⟨⟨ds, gs, before, hw, hc⟩, hx⟩, hz⟩ := hpre
  have hw' := DataW.Whole.of_heap (w' := w.forCall tape i) (by rfl) hw
  refine (contract (w.forCall tape i) w.heap.size i.args ds gs before hval hw' hc (hX _ _ _ (by rfl) hx) hsh).mono fun e W' ⟨v, he, hp⟩ => ?_
  subst he
  exact ChangeSpec.post_blind hp
end

theorem glob_of {laid : List (String × DataW Unit)} {W : World} (i : Nat) (hp : laidMetH Tryd.prog laid W = laidMet Tryd.prog laid W) (hi : laid[i]? = some ("math/bits.deBruijn64tab", Lib.tabData .u8 (Lib.deBruijn64tab.map Int.ofNat))) (h : laidMetH Tryd.prog laid W) : Glob W := by
  rw [hp] at h
  have h64 : Lib.TabIs Tryd.prog W "math/bits.deBruijn64tab" .u8 (Lib.deBruijn64tab.map Int.ofNat) :=
    tabIs_at (g := 0) (t := 70) (e := 5) (by kernel_rfl) (by kernel_rfl) Tryd.underlying70 Tryd.underlying5 (by kernel_rfl) (by kernel_rfl) h i hi
  refine ⟨rfl, ?_, fun j hj => ?_⟩
  · have := h64.cell (g := 0) (by kernel_rfl) 0 (by decide)
    have : 0 < W.heap.size := World.block_lt_of_cell? W _ this
    omega
  · have := h64.cell (g := 0) (by kernel_rfl) j (by simpa using hj)
    rw [this]
    simp [List.getD, hj]

set_option maxRecDepth 100000 in
/-- a law's frame: from its walk to what the row says -/
theorem lifted_tied {os : Os} {H : Type} {enc : TypeId × Value → H} {f : FuncId} {fn : Func} {s : ChangeSpec} {conds : List PathCond} {apart : Bool} {laid : List (String × DataW Unit)}
    (hglob : ∀ W, laidMetH Tryd.prog laid W → Glob W)
    (started : os.Started) (noInit : Tryd.prog.inits.idxOf? f = none) (hfn : Tryd.prog.funcs[f]? = some fn) (hrt : fn.resultTypes = #[4]) (hv : s.vars = [])
    (hrows : ∀ t ∈ fn.params.toList, Tryd.prog.readableRec t = true ∧ t < Tryd.prog.types.size)
    (witness : ∃ (w : World) (tape : Tape) (i : Input), w.os = os ∧ (w.forCall tape i).Shaped Tryd.checked.prog ∧ i.vars = [] ∧ Input.okWide Tryd.checked.prog (w.forCall tape i) .any w.heap.size f i ∧
      ((s.pre enc Tryd.checked.prog fn conds apart (w.forCall tape i).memory i.args ∧ laidMetH Tryd.prog laid (w.forCall tape i).memory) ∧ sizedMet enc Tryd.checked.prog fn (OpenSpec.ofChange s) apart (w.forCall tape i).memory i.args) ∧ ({ modest := false } : Assume).holds Tryd.checked.prog (lone (Frame.enter Tryd.checked.prog f i.args .normal) [] (w.forCall tape i)))
    (walk : ∀ (W : World) (base : Nat) (args : Array Value) (ds : List (DataW H)) (p : List MemPlace),
      (∀ (j : Nat) t v, fn.params[j]? = some t → args[j]? = some v → Value.okWide Tryd.prog W .any base t v) →
      DataW.TrodAll enc Tryd.prog W 0 (fun _ => true) true fn.params.toList args.toList ds p → Glob W →
      s.fn H ds = { results := [.lit (.bool true)], args := ds } ∧ Calls Tryd.prog f args W fun e W' => e = .returned (.bool true) ∧ Below W.heap.size W W') :
    ReturnsInHanded {} Tryd.checked os f .any (fun w args => (s.pre enc Tryd.prog fn conds apart w args ∧ laidMetH Tryd.prog laid w) ∧ sizedMet enc Tryd.prog fn (OpenSpec.ofChange s) apart w args) (s.post enc Tryd.prog fn apart true false false) := by
  refine returnsInHanded_of_laid (C := Tryd.checked) (X := fun w _ => laidMetH Tryd.prog laid w) (fun _ _ _ hh h => h.of_heap hh) own_knob started noInit hfn witness ?_
  intro W base args ds gs before hval hW _ hL _
  have hW' := hW
  obtain ⟨p, q, hA, hV, rfl, _, _⟩ := hW
  rw [hv] at hV
  obtain ⟨rfl, rfl⟩ := trodVars_none hV
  obtain ⟨hs, hw⟩ := walk W base args ds p hval hA (hglob W hL)
  refine hw.mono fun e W' ⟨he, hb⟩ => ?_
  subst he
  exact ⟨_, rfl, post_true laid_out Tryd.underlying4 hrt hv hrows (by simpa using hs) hW' hb⟩

end Go.Proofs.YtpoalgkgomljmaaDoor

namespace Go.Proofs.YtpoalgkgomljmaaDoor
open Go.RowKit

/-- a table that can be looked at whole: few holdings of few things -/
def FewT (l : Tb) : Prop := l.length ≤ 100 ∧ ∀ h ∈ l, h.things.length ≤ 100
theorem FewT.at {l : Tb} (h : FewT l) {k : Nat} (hk : k < l.length) : (l.getD k hd0).things.length ≤ 100 := by
  rw [List.getD, List.getElem?_eq_getElem hk]
  exact h.2 _ (List.getElem_mem hk)

/-- a holding and a yes or no -/
def GHPost (h : Hd) (b : Bool) (w : World) (e : Ending) (w' : World) : Prop :=
  (∃ A m c, e = .returned (.tuple #[.agg #[.int .i64 h.id, .slice A m c, .int .i64 h.frm, .int .i64 h.to], .bool b]) ∧ HAsk w' A m c h) ∧ Below w.heap.size w w'
/-- a table, a holding, and no error -/
def DPost (l : Tb) (h : Hd) (w : World) (e : Ending) (w' : World) : Prop :=
  (∃ A1 n1 c1 A m c, e = .returned (.tuple #[.slice A1 n1 c1, .agg #[.int .i64 h.id, .slice A m c, .int .i64 h.frm, .int .i64 h.to], .int .i64 0]) ∧ (RT w' w'.heap.size A1 n1 l ∧ (A1 = none → c1 = 0) ∧ n1 ≤ c1) ∧ HAsk w' A m c h) ∧ Below w.heap.size w w'
/-- some table and an error's number -/
def CPost (er : Int) (w : World) (e : Ending) (w' : World) : Prop :=
  (∃ A1 n1 c1, e = .returned (.tuple #[.slice A1 n1 c1, .int .i64 er])) ∧ Below w.heap.size w w'
/-- two tables -/
def TTPost (a b : Tb) (w : World) (e : Ending) (w' : World) : Prop :=
  (∃ A1 c1 A2 c2, e = .returned (.tuple #[.slice A1 a.length c1, .slice A2 b.length c2]) ∧ RT w' w'.heap.size A1 a.length a ∧ RT w' w'.heap.size A2 b.length b ∧ ((A1 = none → c1 = 0) ∧ a.length ≤ c1) ∧ ((A2 = none → c2 = 0) ∧ b.length ≤ c2)) ∧ Below w.heap.size w w'

end Go.Proofs.YtpoalgkgomljmaaDoor

namespace Go.Proofs.YtpoalgkgomljmaaDoor
open Go.RowKit

theorem bytes_snoc (s : ByteArray) (k : Nat) (h : k < s.size) : s.data.toList.take (k + 1) = s.data.toList.take k ++ [s[k]] := by
  rw [List.take_succ_eq_append_getElem (by simpa using h)]; rfl
theorem str_empty {s : ByteArray} (h : s.size = 0) : s = ⟨#[]⟩ := by
  apply ByteArray.ext
  exact Array.eq_empty_of_size_eq_zero h
theorem str_facts {s : ByteArray} (h : s.size ≠ 0) : (¬ s.toList = []) ∧ s.toList.isEmpty = false ∧ (s.toList == []) = false ∧ (s.toList != []) = true := by
  have h1 : ¬ s.toList = [] := fun e => h (by
    rw [ByteArray.toList_eq] at e
    have : s.data.toList.length = 0 := by rw [e]; rfl
    simpa using this)
  refine ⟨h1, ?_, ?_, ?_⟩
  · rw [← Bool.not_eq_true, List.isEmpty_iff]; exact h1
  · rw [← Bool.not_eq_true, beq_iff_eq]; exact h1
  · rw [bne_iff_ne]; exact h1
theorem tagB_size {s : ByteArray} (h : tagB s = true) : s.size ≤ 16 := by
  unfold tagB at h
  rw [Bool.and_eq_true, decide_eq_true_eq] at h
  exact h.2
theorem rightG_no {g : Gr} {i : Nat} (hi : i < g.length) (h : ¬ okT g i) : rightG g = false := by
  unfold rightG
  rw [decide_eq_false_iff_not]
  exact fun h' => h (h'.2.2 i hi)
theorem okT_zero (g : Gr) : okT g 0 ↔ gk g 0 = 0 ∧ gu g 0 = -1 ∧ (gt g 0).size = 0 := by unfold okT; rw [if_pos rfl]
theorem okT_pos {g : Gr} {i : Nat} (h : 0 < i) : okT g i ↔ 0 ≤ gu g i ∧ gu g i < i ∧ ((gt g i).size = 0 ∨ gk g i = 2) ∧ tagB (gt g i) = true ∧
      ((gk g i = 1 ∧ gk g (gu g i).toNat = 0) ∨ (gk g i = 2 ∧ gk g (gu g i).toNat < 2) ∨ ((gk g i = 3 ∨ gk g i = 4) ∧ gk g (gu g i).toNat = 2)) := by unfold okT; rw [if_neg (by omega)]
/-- one number more is appended -/
theorem wpList_append_EI {P : Program} {ops : Array Oper} {rest : List Oper} {o : Oper} {a : Act} {Q : Exit → Act → World → Prop} {w wr : World} {v : Value} {xs : List Int} (hgd : o.guard = none) (s x : Operand) (ty t : TypeId)
    (ho : o.op = .call { callee := .builtin .append, args := #[s, x], argTypes := #[ty, ty] })
    (h : ON EI 1 t w v xs wr) (i : TypeInfo) (ht : P.underlying ty = some (.slice t)) (hi : P.info? t = some i) (hz : i.zero = some (.int .i64 0)) (hsize : i.size = 1) (hby : i.bytes = 8)
    (hs : a.eval s = v) (x0 : Int) (hx : a.eval x = .slice (some ⟨wr.heap.size, 0, none⟩) 1 1) (hl : xs.length ≤ 1000)
    (hk : ∀ v' w', ON EI 1 t w v' (xs ++ [x0]) w' → wpList P ops Q rest (a.put o.dst v') w') : wpList P ops Q (o :: rest) a (wr.alloc (.cells #[.int .i64 x0] t)) :=
  wpList_append_ON hgd s x ty ho ei_steady h i (.int .i64 0) 8 ht hi hz hsize hby rfl (by decide) hs x0 #[.int .i64 x0] hx rfl (by intro u hu; simp at hu; subst hu; rfl) rfl (by unfold maxLen; omega) (by omega) hk

theorem wholeL_no {g : Gr} {l : List Int} (h : ¬ (rightG g = true ∧ rightB l = true ∧ ∀ x ∈ l, x < g.length)) : wholeL g l = [] := by
  unfold wholeL wholeOk
  rw [if_neg]
  intro h'
  rw [Bool.and_eq_true, Bool.and_eq_true, decide_eq_true_eq] at h'
  exact h ⟨h'.1.1, h'.1.2, h'.2⟩
theorem wholeL_yes {g : Gr} {l : List Int} (h1 : rightG g = true) (h2 : rightB l = true) (h3 : ∀ x ∈ l, x < g.length) : wholeL g l = numsF (anyOver g l) g.length := by
  unfold wholeL wholeOk
  rw [if_pos (by rw [h1, h2, decide_eq_true h3]; rfl)]
theorem right_lt_last {l : List Int} (h : rightB l = true) : ∀ (j i : Nat), i < j → j < l.length → l.getD i 0 < l.getD j 0 := by
  rw [rightB_iff] at h
  intro j
  induction j with
  | zero => intro i hi; omega
  | succ j ih =>
    intro i hi hj
    have := (h (j + 1) hj).2.2 (by omega)
    rw [Nat.add_sub_cancel] at this
    rcases Nat.lt_or_ge i j with h' | h'
    · have := ih i h' (by omega); omega
    · obtain rfl : i = j := by omega
      exact this
theorem all_lt_last {l : List Int} (h : rightB l = true) (hl : 0 < l.length) (N : Nat) : l.getD (l.length - 1) 0 < N → ∀ x ∈ l, x < N := by
  intro h1 x hx
  obtain ⟨i, hi, rfl⟩ := List.getElem_of_mem hx
  have e : l[i] = l.getD i 0 := by rw [List.getD, List.getElem?_eq_getElem hi]; rfl
  rw [e]
  rcases Nat.lt_or_ge i (l.length - 1) with h' | h'
  · have := right_lt_last h (l.length - 1) i h' (by omega); omega
  · obtain rfl : i = l.length - 1 := by omega
    exact h1
theorem anyOver_no {g : Gr} {l : List Int} {k : Nat} (h : ∀ i, i < l.length → overG g k (l.getD i 0).toNat = false) : anyOver g l k = false := by
  unfold anyOver
  rw [List.any_eq_false]
  intro x hx
  obtain ⟨i, hi, rfl⟩ := List.getElem_of_mem hx
  have := h i hi
  rw [List.getD, List.getElem?_eq_getElem hi] at this
  intro h'
  rw [show l[i] = (some l[i]).getD 0 from rfl, this] at h'
  cases h'

end Go.Proofs.YtpoalgkgomljmaaDoor

namespace Go.Proofs.YtpoalgkgomljmaaDoor
open Go.RowKit
attribute [local go_sem] alloc_drewN setCell_drewN

theorem bcell {B : Nat} {W w1 : World} (hb : Below B W w1) : (∀ b o, b < B → w1.cell? ⟨b, o, none⟩ = W.cell? ⟨b, o, none⟩) ∧ (∀ b o, b < B → w1.frozen? ⟨b, o, none⟩ = W.frozen? ⟨b, o, none⟩) :=
  ⟨fun b o h => hb.cell (p := ⟨b, o, none⟩) h, fun b o h => hb.frozen (p := ⟨b, o, none⟩) h⟩

set_option maxHeartbeats 1000000 in
theorem both_yes (A A' : Option Addr) (n c n' c' : Nat) (xs ys : List Int) (w : World) (hr : RI w w.heap.size A n xs) (hr' : RI w w.heap.size A' n' ys) (hn : n ≤ maxLen) (hn' : n' ≤ maxLen) (hx : rightB xs = true) (hy : rightB ys = true) :
    Calls Tryd.prog 14 #[.slice A n c, .slice A' n' c'] w fun e w' =>
      (∃ a0 a1 a2 a3 b0 b1 b2 b3 : Nat, Four (inB xs) a0 a1 a2 a3 ∧ Four (inB ys) b0 b1 b2 b3 ∧ e = .returned (.tuple #[.agg #[.int .u64 a0, .int .u64 a1, .int .u64 a2, .int .u64 a3], .agg #[.int .u64 b0, .int .u64 b1, .int .u64 b2, .int .u64 b3], .bool true])) ∧ Below w.heap.size w w' := by
  have HX := Lib.hid hx
  have HY := Lib.hid hy
  clear hx hy
  go_enter Tryd.func14, Tryd.ntmps14
  go_wp2_with fail
  have hb0 : Below w.heap.size w ((w.alloc (.cells #[.int .u64 0, .int .u64 0, .int .u64 0, .int .u64 0] 48)).alloc (.cells #[.int .u64 0, .int .u64 0, .int .u64 0, .int .u64 0] 48)) := by go_grown
  refine (pack_any _ _ _ xs _ ((hr.below hb0).more hb0.size) hn).mono ?_
  rintro e w1 ⟨⟨a0, a1, a2, a3, ha, rfl⟩, hb1⟩
  have HA := Lib.hid ha
  clear ha
  rw [HX.out]
  obtain ⟨hc1, hf1⟩ := bcell hb1
  have hz1 : w.heap.size + 1 + 1 ≤ w1.heap.size := by have := hb1.size; simp at this; omega
  have hz2 : w.heap.size + 1 < w1.heap.size := by omega
  have hz2' : w.heap.size < w1.heap.size := by omega
  simp only [World.size_alloc] at hc1 hf1
  go_wp2_with fail
  have hb2 : Below w.heap.size w (w1.alloc (.cells #[.int .u64 a0, .int .u64 a1, .int .u64 a2, .int .u64 a3] 48)) := (hb0.trans (hb1.mono (by simp; omega))).alloc (by omega) _
  refine (pack_any _ _ _ ys _ ((hr'.below hb2).more hb2.size) hn').mono ?_
  rintro e w2 ⟨⟨b0, b1, b2, b3, hb, rfl⟩, hb3⟩
  have HB := Lib.hid hb
  clear hb
  rw [HY.out]
  obtain ⟨hc3, hf3⟩ := bcell hb3
  have hz3 : w1.heap.size + 1 ≤ w2.heap.size := by have := hb3.size; simp at this; omega
  simp only [World.size_alloc] at hc3 hf3
  have hz4 : w1.heap.size < w2.heap.size := by omega
  have hz5 : w.heap.size + 1 < w2.heap.size := by omega
  have hz6 : w.heap.size < w2.heap.size := by omega
  have hz7 : w.heap.size < w1.heap.size + 1 := by omega
  have hz8 : w.heap.size + 1 < w1.heap.size + 1 := by omega
  have hb4 : Below w.heap.size w (w2.alloc (.cells #[.int .u64 b0, .int .u64 b1, .int .u64 b2, .int .u64 b3] 48)) := (hb2.trans (hb3.mono (by simp; omega))).alloc (by omega) _
  have cx0 : (w2.alloc (.cells #[.int .u64 b0, .int .u64 b1, .int .u64 b2, .int .u64 b3] 48)).cell? ⟨w1.heap.size, 0, none⟩ = some (.int .u64 a0) := by go_simp
  have cx1 : (w2.alloc (.cells #[.int .u64 b0, .int .u64 b1, .int .u64 b2, .int .u64 b3] 48)).cell? ⟨w1.heap.size, 1, none⟩ = some (.int .u64 a1) := by go_simp
  have cx2 : (w2.alloc (.cells #[.int .u64 b0, .int .u64 b1, .int .u64 b2, .int .u64 b3] 48)).cell? ⟨w1.heap.size, 2, none⟩ = some (.int .u64 a2) := by go_simp
  have cx3 : (w2.alloc (.cells #[.int .u64 b0, .int .u64 b1, .int .u64 b2, .int .u64 b3] 48)).cell? ⟨w1.heap.size, 3, none⟩ = some (.int .u64 a3) := by go_simp
  have cy0 : (w2.alloc (.cells #[.int .u64 b0, .int .u64 b1, .int .u64 b2, .int .u64 b3] 48)).cell? ⟨w2.heap.size, 0, none⟩ = some (.int .u64 b0) := by go_simp
  have cy1 : (w2.alloc (.cells #[.int .u64 b0, .int .u64 b1, .int .u64 b2, .int .u64 b3] 48)).cell? ⟨w2.heap.size, 1, none⟩ = some (.int .u64 b1) := by go_simp
  have cy2 : (w2.alloc (.cells #[.int .u64 b0, .int .u64 b1, .int .u64 b2, .int .u64 b3] 48)).cell? ⟨w2.heap.size, 2, none⟩ = some (.int .u64 b2) := by go_simp
  have cy3 : (w2.alloc (.cells #[.int .u64 b0, .int .u64 b1, .int .u64 b2, .int .u64 b3] 48)).cell? ⟨w2.heap.size, 3, none⟩ = some (.int .u64 b3) := by go_simp
  have cr0 : (w2.alloc (.cells #[.int .u64 b0, .int .u64 b1, .int .u64 b2, .int .u64 b3] 48)).cell? ⟨w.heap.size, 0, none⟩ = some (.int .u64 0) := by go_simp
  have fr0 : (w2.alloc (.cells #[.int .u64 b0, .int .u64 b1, .int .u64 b2, .int .u64 b3] 48)).frozen? ⟨w.heap.size, 0, none⟩ = false := by go_simp
  have cr1 : (w2.alloc (.cells #[.int .u64 b0, .int .u64 b1, .int .u64 b2, .int .u64 b3] 48)).cell? ⟨w.heap.size, 1, none⟩ = some (.int .u64 0) := by go_simp
  have fr1 : (w2.alloc (.cells #[.int .u64 b0, .int .u64 b1, .int .u64 b2, .int .u64 b3] 48)).frozen? ⟨w.heap.size, 1, none⟩ = false := by go_simp
  have cr2 : (w2.alloc (.cells #[.int .u64 b0, .int .u64 b1, .int .u64 b2, .int .u64 b3] 48)).cell? ⟨w.heap.size, 2, none⟩ = some (.int .u64 0) := by go_simp
  have fr2 : (w2.alloc (.cells #[.int .u64 b0, .int .u64 b1, .int .u64 b2, .int .u64 b3] 48)).frozen? ⟨w.heap.size, 2, none⟩ = false := by go_simp
  have cr3 : (w2.alloc (.cells #[.int .u64 b0, .int .u64 b1, .int .u64 b2, .int .u64 b3] 48)).cell? ⟨w.heap.size, 3, none⟩ = some (.int .u64 0) := by go_simp
  have fr3 : (w2.alloc (.cells #[.int .u64 b0, .int .u64 b1, .int .u64 b2, .int .u64 b3] 48)).frozen? ⟨w.heap.size, 3, none⟩ = false := by go_simp
  have cs0 : (w2.alloc (.cells #[.int .u64 b0, .int .u64 b1, .int .u64 b2, .int .u64 b3] 48)).cell? ⟨w.heap.size + 1, 0, none⟩ = some (.int .u64 0) := by go_simp
  have fs0 : (w2.alloc (.cells #[.int .u64 b0, .int .u64 b1, .int .u64 b2, .int .u64 b3] 48)).frozen? ⟨w.heap.size + 1, 0, none⟩ = false := by go_simp
  have cs1 : (w2.alloc (.cells #[.int .u64 b0, .int .u64 b1, .int .u64 b2, .int .u64 b3] 48)).cell? ⟨w.heap.size + 1, 1, none⟩ = some (.int .u64 0) := by go_simp
  have fs1 : (w2.alloc (.cells #[.int .u64 b0, .int .u64 b1, .int .u64 b2, .int .u64 b3] 48)).frozen? ⟨w.heap.size + 1, 1, none⟩ = false := by go_simp
  have cs2 : (w2.alloc (.cells #[.int .u64 b0, .int .u64 b1, .int .u64 b2, .int .u64 b3] 48)).cell? ⟨w.heap.size + 1, 2, none⟩ = some (.int .u64 0) := by go_simp
  have fs2 : (w2.alloc (.cells #[.int .u64 b0, .int .u64 b1, .int .u64 b2, .int .u64 b3] 48)).frozen? ⟨w.heap.size + 1, 2, none⟩ = false := by go_simp
  have cs3 : (w2.alloc (.cells #[.int .u64 b0, .int .u64 b1, .int .u64 b2, .int .u64 b3] 48)).cell? ⟨w.heap.size + 1, 3, none⟩ = some (.int .u64 0) := by go_simp
  have fs3 : (w2.alloc (.cells #[.int .u64 b0, .int .u64 b1, .int .u64 b2, .int .u64 b3] 48)).frozen? ⟨w.heap.size + 1, 3, none⟩ = false := by go_simp
  have hsz : w.heap.size + 1 < (w2.alloc (.cells #[.int .u64 b0, .int .u64 b1, .int .u64 b2, .int .u64 b3] 48)).heap.size := by simp; omega
  clear hr hr' hb0 hb1 hb2 hb3 hz1 hz3
  go_wp2
  clear hc1 hf1 hc3 hf3
  generalize (w2.alloc (.cells #[.int .u64 b0, .int .u64 b1, .int .u64 b2, .int .u64 b3] 48)) = W at *
  generalize hB : w.heap.size = B at *
  have HBB := Lib.hid hB
  clear hB
  generalize w1.heap.size = p at *
  generalize w2.heap.size = q at *
  go_region
  all_goals go_wp2
  all_goals
    refine bodyPost_ret (v := .tuple #[.agg #[.int .u64 a0, .int .u64 a1, .int .u64 a2, .int .u64 a3], .agg #[.int .u64 b0, .int .u64 b1, .int .u64 b2, .int .u64 b3], .bool true]) (by simp [results, Tryd.results14, go_sem, *]) rfl ⟨⟨a0, a1, a2, a3, b0, b1, b2, b3, HA.out HX.out, HB.out HY.out, rfl⟩, ?_⟩
    rw [HBB.out]
    go_grown

set_option maxHeartbeats 1000000 in
theorem both_no (A A' : Option Addr) (n c n' c' : Nat) (xs ys : List Int) (w : World) (hr : RI w w.heap.size A n xs) (hr' : RI w w.heap.size A' n' ys) (hn : n ≤ maxLen) (hn' : n' ≤ maxLen) (hxy : (rightB xs && rightB ys) = false) :
    Calls Tryd.prog 14 #[.slice A n c, .slice A' n' c'] w fun e w' =>
      e = .returned (.tuple #[.agg #[.int .u64 0, .int .u64 0, .int .u64 0, .int .u64 0], .agg #[.int .u64 0, .int .u64 0, .int .u64 0, .int .u64 0], .bool false]) ∧ Below w.heap.size w w' := by
  have HXY := Lib.hid hxy
  clear hxy
  obtain ⟨X, hX⟩ : ∃ X, rightB xs = X := ⟨_, rfl⟩
  obtain ⟨Y, hY⟩ : ∃ Y, rightB ys = Y := ⟨_, rfl⟩
  have HX := Lib.hid hX
  have HY := Lib.hid hY
  have HZ : Hid ((X && Y) = false) := Lib.hid (by rw [← hX, ← hY]; exact HXY.out)
  clear hX hY
  go_enter Tryd.func14, Tryd.ntmps14
  go_wp2_with fail
  have hb0 : Below w.heap.size w ((w.alloc (.cells #[.int .u64 0, .int .u64 0, .int .u64 0, .int .u64 0] 48)).alloc (.cells #[.int .u64 0, .int .u64 0, .int .u64 0, .int .u64 0] 48)) := by go_grown
  refine (pack_any _ _ _ xs _ ((hr.below hb0).more hb0.size) hn).mono ?_
  rintro e w1 ⟨⟨a0, a1, a2, a3, ha, rfl⟩, hb1⟩
  have HA := Lib.hid ha
  clear ha
  rw [HX.out]
  obtain ⟨hc1, hf1⟩ := bcell hb1
  have hz1 : w.heap.size + 1 + 1 ≤ w1.heap.size := by have := hb1.size; simp at this; omega
  have hz2 : w.heap.size + 1 < w1.heap.size := by omega
  have hz2' : w.heap.size < w1.heap.size := by omega
  simp only [World.size_alloc] at hc1 hf1
  go_wp2_with fail
  have hb2 : Below w.heap.size w (w1.alloc (.cells #[.int .u64 a0, .int .u64 a1, .int .u64 a2, .int .u64 a3] 48)) := (hb0.trans (hb1.mono (by simp; omega))).alloc (by omega) _
  refine (pack_any _ _ _ ys _ ((hr'.below hb2).more hb2.size) hn').mono ?_
  rintro e w2 ⟨⟨b0, b1, b2, b3, hb, rfl⟩, hb3⟩
  have HB := Lib.hid hb
  clear hb
  rw [HY.out]
  obtain ⟨hc3, hf3⟩ := bcell hb3
  have hz3 : w1.heap.size + 1 ≤ w2.heap.size := by have := hb3.size; simp at this; omega
  simp only [World.size_alloc] at hc3 hf3
  have hz4 : w1.heap.size < w2.heap.size := by omega
  have hz5 : w.heap.size + 1 < w2.heap.size := by omega
  have hz6 : w.heap.size < w2.heap.size := by omega
  have hz7 : w.heap.size < w1.heap.size + 1 := by omega
  have hz8 : w.heap.size + 1 < w1.heap.size + 1 := by omega
  have hb4 : Below w.heap.size w (w2.alloc (.cells #[.int .u64 b0, .int .u64 b1, .int .u64 b2, .int .u64 b3] 48)) := (hb2.trans (hb3.mono (by simp; omega))).alloc (by omega) _
  have cx0 : (w2.alloc (.cells #[.int .u64 b0, .int .u64 b1, .int .u64 b2, .int .u64 b3] 48)).cell? ⟨w1.heap.size, 0, none⟩ = some (.int .u64 a0) := by go_simp
  have cx1 : (w2.alloc (.cells #[.int .u64 b0, .int .u64 b1, .int .u64 b2, .int .u64 b3] 48)).cell? ⟨w1.heap.size, 1, none⟩ = some (.int .u64 a1) := by go_simp
  have cx2 : (w2.alloc (.cells #[.int .u64 b0, .int .u64 b1, .int .u64 b2, .int .u64 b3] 48)).cell? ⟨w1.heap.size, 2, none⟩ = some (.int .u64 a2) := by go_simp
  have cx3 : (w2.alloc (.cells #[.int .u64 b0, .int .u64 b1, .int .u64 b2, .int .u64 b3] 48)).cell? ⟨w1.heap.size, 3, none⟩ = some (.int .u64 a3) := by go_simp
  have cy0 : (w2.alloc (.cells #[.int .u64 b0, .int .u64 b1, .int .u64 b2, .int .u64 b3] 48)).cell? ⟨w2.heap.size, 0, none⟩ = some (.int .u64 b0) := by go_simp
  have cy1 : (w2.alloc (.cells #[.int .u64 b0, .int .u64 b1, .int .u64 b2, .int .u64 b3] 48)).cell? ⟨w2.heap.size, 1, none⟩ = some (.int .u64 b1) := by go_simp
  have cy2 : (w2.alloc (.cells #[.int .u64 b0, .int .u64 b1, .int .u64 b2, .int .u64 b3] 48)).cell? ⟨w2.heap.size, 2, none⟩ = some (.int .u64 b2) := by go_simp
  have cy3 : (w2.alloc (.cells #[.int .u64 b0, .int .u64 b1, .int .u64 b2, .int .u64 b3] 48)).cell? ⟨w2.heap.size, 3, none⟩ = some (.int .u64 b3) := by go_simp
  have cr0 : (w2.alloc (.cells #[.int .u64 b0, .int .u64 b1, .int .u64 b2, .int .u64 b3] 48)).cell? ⟨w.heap.size, 0, none⟩ = some (.int .u64 0) := by go_simp
  have fr0 : (w2.alloc (.cells #[.int .u64 b0, .int .u64 b1, .int .u64 b2, .int .u64 b3] 48)).frozen? ⟨w.heap.size, 0, none⟩ = false := by go_simp
  have cr1 : (w2.alloc (.cells #[.int .u64 b0, .int .u64 b1, .int .u64 b2, .int .u64 b3] 48)).cell? ⟨w.heap.size, 1, none⟩ = some (.int .u64 0) := by go_simp
  have fr1 : (w2.alloc (.cells #[.int .u64 b0, .int .u64 b1, .int .u64 b2, .int .u64 b3] 48)).frozen? ⟨w.heap.size, 1, none⟩ = false := by go_simp
  have cr2 : (w2.alloc (.cells #[.int .u64 b0, .int .u64 b1, .int .u64 b2, .int .u64 b3] 48)).cell? ⟨w.heap.size, 2, none⟩ = some (.int .u64 0) := by go_simp
  have fr2 : (w2.alloc (.cells #[.int .u64 b0, .int .u64 b1, .int .u64 b2, .int .u64 b3] 48)).frozen? ⟨w.heap.size, 2, none⟩ = false := by go_simp
  have cr3 : (w2.alloc (.cells #[.int .u64 b0, .int .u64 b1, .int .u64 b2, .int .u64 b3] 48)).cell? ⟨w.heap.size, 3, none⟩ = some (.int .u64 0) := by go_simp
  have fr3 : (w2.alloc (.cells #[.int .u64 b0, .int .u64 b1, .int .u64 b2, .int .u64 b3] 48)).frozen? ⟨w.heap.size, 3, none⟩ = false := by go_simp
  have cs0 : (w2.alloc (.cells #[.int .u64 b0, .int .u64 b1, .int .u64 b2, .int .u64 b3] 48)).cell? ⟨w.heap.size + 1, 0, none⟩ = some (.int .u64 0) := by go_simp
  have fs0 : (w2.alloc (.cells #[.int .u64 b0, .int .u64 b1, .int .u64 b2, .int .u64 b3] 48)).frozen? ⟨w.heap.size + 1, 0, none⟩ = false := by go_simp
  have cs1 : (w2.alloc (.cells #[.int .u64 b0, .int .u64 b1, .int .u64 b2, .int .u64 b3] 48)).cell? ⟨w.heap.size + 1, 1, none⟩ = some (.int .u64 0) := by go_simp
  have fs1 : (w2.alloc (.cells #[.int .u64 b0, .int .u64 b1, .int .u64 b2, .int .u64 b3] 48)).frozen? ⟨w.heap.size + 1, 1, none⟩ = false := by go_simp
  have cs2 : (w2.alloc (.cells #[.int .u64 b0, .int .u64 b1, .int .u64 b2, .int .u64 b3] 48)).cell? ⟨w.heap.size + 1, 2, none⟩ = some (.int .u64 0) := by go_simp
  have fs2 : (w2.alloc (.cells #[.int .u64 b0, .int .u64 b1, .int .u64 b2, .int .u64 b3] 48)).frozen? ⟨w.heap.size + 1, 2, none⟩ = false := by go_simp
  have cs3 : (w2.alloc (.cells #[.int .u64 b0, .int .u64 b1, .int .u64 b2, .int .u64 b3] 48)).cell? ⟨w.heap.size + 1, 3, none⟩ = some (.int .u64 0) := by go_simp
  have fs3 : (w2.alloc (.cells #[.int .u64 b0, .int .u64 b1, .int .u64 b2, .int .u64 b3] 48)).frozen? ⟨w.heap.size + 1, 3, none⟩ = false := by go_simp
  have hsz : w.heap.size + 1 < (w2.alloc (.cells #[.int .u64 b0, .int .u64 b1, .int .u64 b2, .int .u64 b3] 48)).heap.size := by simp; omega
  clear hr hr' hb0 hb1 hb2 hb3 hz1 hz3
  cases X with
  | false =>
    go_upto_region 4 with (fail)
    clear hc1 hf1 hc3 hf3
    generalize (w2.alloc (.cells #[.int .u64 b0, .int .u64 b1, .int .u64 b2, .int .u64 b3] 48)) = W at *
    generalize hB : w.heap.size = B at *
    have HBB := Lib.hid hB
    clear hB
    generalize w1.heap.size = p at *
    generalize w2.heap.size = q at *
    go_wp2
    refine bodyPost_ret (v := .tuple #[.agg #[.int .u64 0, .int .u64 0, .int .u64 0, .int .u64 0], .agg #[.int .u64 0, .int .u64 0, .int .u64 0, .int .u64 0], .bool false]) (by simp [results, Tryd.results14, go_sem, *]) rfl ⟨rfl, ?_⟩
    rw [HBB.out]
    go_grown
  | true =>
    have hY : Y = false := by simpa using HZ.out
    subst hY
    go_upto_region 4 with (fail)
    clear hc1 hf1 hc3 hf3
    generalize (w2.alloc (.cells #[.int .u64 b0, .int .u64 b1, .int .u64 b2, .int .u64 b3] 48)) = W at *
    generalize hB : w.heap.size = B at *
    have HBB := Lib.hid hB
    clear hB
    generalize w1.heap.size = p at *
    generalize w2.heap.size = q at *
    go_wp2
    refine bodyPost_ret (v := .tuple #[.agg #[.int .u64 0, .int .u64 0, .int .u64 0, .int .u64 0], .agg #[.int .u64 0, .int .u64 0, .int .u64 0, .int .u64 0], .bool false]) (by simp [results, Tryd.results14, go_sem, *]) rfl ⟨rfl, ?_⟩
    rw [HBB.out]
    go_grown

end Go.Proofs.YtpoalgkgomljmaaDoor

namespace Go.Proofs.YtpoalgkgomljmaaDoor
open Go.RowKit
open Go.Shelf
attribute [local go_sem] alloc_drewN setCell_drewN

/-- 'a slice that holds these numbers, in new memory', kept from the walk -/
def Gives (l : List Int) (w : World) (e : Ending) (w' : World) : Prop :=
  (∃ A c, l.length ≤ c ∧ e = .returned (.slice A l.length c) ∧ RI w' w'.heap.size A l.length l) ∧ Below w.heap.size w w'
theorem gives_of_own {l : List Int} {w w' : World} {B : Nat} {v : Value} (h : w'.ownsRow B 3 1 v l.length (l.map (Value.int .i64))) (hb : Below w.heap.size w w') : Gives l w (.returned v) w' := by
  rcases h.2 with ⟨hv, h0⟩ | ⟨g, cap, cur, hv, _, _, hcap, _⟩
  · subst hv
    have hl : l = [] := List.eq_nil_of_length_eq_zero h0
    subst hl
    exact ⟨⟨none, 0, Nat.le_refl _, rfl, RI.nil⟩, hb⟩
  · subst hv
    exact ⟨⟨_, _, hcap, rfl, RI.of_own h⟩, hb⟩

theorem IPost.gives {l : List Int} {w w' : World} {e : Ending} (h : IPost l w e w') : Gives l w e w' := by
  obtain ⟨⟨A, c, h1, h2, _, h4⟩, hb⟩ := h
  exact ⟨⟨A, c, h4, h1, h2⟩, hb⟩
theorem four_or {p q : Int → Bool} {a0 a1 a2 a3 b0 b1 b2 b3 : Nat} (h : Four p a0 a1 a2 a3) (k : Four q b0 b1 b2 b3) : Four (fun n => p n || q n) (a0 ||| b0) (a1 ||| b1) (a2 ||| b2) (a3 ||| b3) := by
  obtain ⟨rfl, rfl, rfl, rfl⟩ := h
  obtain ⟨rfl, rfl, rfl, rfl⟩ := k
  exact ⟨wordOf_or _ _ _, wordOf_or _ _ _, wordOf_or _ _ _, wordOf_or _ _ _⟩
theorem four_and {p q : Int → Bool} {a0 a1 a2 a3 b0 b1 b2 b3 : Nat} (h : Four p a0 a1 a2 a3) (k : Four q b0 b1 b2 b3) : Four (fun n => p n && q n) (a0 &&& b0) (a1 &&& b1) (a2 &&& b2) (a3 &&& b3) := by
  obtain ⟨rfl, rfl, rfl, rfl⟩ := h
  obtain ⟨rfl, rfl, rfl, rfl⟩ := k
  exact ⟨wordOf_and _ _ _, wordOf_and _ _ _, wordOf_and _ _ _, wordOf_and _ _ _⟩
theorem four_less {p q : Int → Bool} {a0 a1 a2 a3 b0 b1 b2 b3 : Nat} (h : Four p a0 a1 a2 a3) (k : Four q b0 b1 b2 b3) : Four (fun n => p n && !q n) (a0 &&& neg64 b0) (a1 &&& neg64 b1) (a2 &&& neg64 b2) (a3 &&& neg64 b3) := by
  obtain ⟨rfl, rfl, rfl, rfl⟩ := h
  obtain ⟨rfl, rfl, rfl, rfl⟩ := k
  exact ⟨wordOf_andNot _ _ _, wordOf_andNot _ _ _, wordOf_andNot _ _ _, wordOf_andNot _ _ _⟩

theorem joinL_pick {xs ys : List Int} (hx : rightB xs = true) (hy : rightB ys = true) : pickL (fun n => inB xs n || inB ys n) = joinL xs ys := by
  unfold joinL whichL
  rw [hx, hy]
  rfl

set_option maxHeartbeats 1000000 in
theorem join_post (A A' : Option Addr) (n c n' c' : Nat) (xs ys : List Int) (w : World) (hr : RI w w.heap.size A n xs) (hr' : RI w w.heap.size A' n' ys) (hn : n ≤ maxLen) (hn' : n' ≤ maxLen)
    (hT : TabAt 0 Lib.deBruijn64tab w) (hB : 0 < w.heap.size) :
    Calls Tryd.prog 9 #[.slice A n c, .slice A' n' c'] w (IPost (joinL xs ys) w) := by
  have HT := Lib.hid hT
  clear hT
  by_cases hxy : (rightB xs && rightB ys) = true
  · have hx : Hid (rightB xs = true) := Lib.hid (by simp at hxy; exact hxy.1)
    have hy : Hid (rightB ys = true) := Lib.hid (by simp at hxy; exact hxy.2)
    clear hxy
    go_enter Tryd.func9, Tryd.ntmps9
    go_wp2_with fail
    refine (both_yes _ _ _ _ _ _ xs ys _ hr hr' hn hn' hx.out hy.out).mono ?_
    rintro e w1 ⟨⟨a0, a1, a2, a3, b0, b1, b2, b3, ha, hb, rfl⟩, hb1⟩
    have HA := Lib.hid ha
    have HBB := Lib.hid hb
    obtain ⟨ua0, ua1, ua2, ua3⟩ := four_lt ha
    obtain ⟨ub0, ub1, ub2, ub3⟩ := four_lt hb
    clear ha hb hr hr'
    have hz := hb1.size
    go_wp2_with fail
    refine (wjoin_any a0 a1 a2 a3 b0 b1 b2 b3 _ ua0 ua1 ua2 ua3 ub0 ub1 ub2 ub3).mono ?_
    rintro e w2 ⟨rfl, hb2⟩
    have hb3 : Below w.heap.size w w2 := ((hb1.alloc (by omega) _).alloc (by simp; omega) _).trans (hb2.mono (by simp; omega))
    have hz3 := hb3.size
    go_wp2_with fail
    refine (list_any _ _ _ _ _ (four_or HA.out HBB.out) _ (tab_below HT.out hb3 hB) (by omega)).mono ?_
    rintro e w3 ⟨⟨v, rfl, hown⟩, hb4⟩
    have HO := Lib.hid hown
    clear hown
    go_wp2
    go_ret
    have h := HO.out
    rw [joinL_pick hx.out hy.out] at h
    exact ipost_own h (hb3.trans (hb4.mono hz3))
  · have hno : (rightB xs && rightB ys) = false := by simpa using hxy
    have HL : Hid (joinL xs ys = []) := Lib.hid (whichL_wrong hno)
    have HN := Lib.hid hno
    clear hxy hno
    go_enter Tryd.func9, Tryd.ntmps9
    go_wp2_with fail
    refine (both_no _ _ _ _ _ _ xs ys _ hr hr' hn hn' HN.out).mono ?_
    rintro e w1 ⟨rfl, hb1⟩
    have hz := hb1.size
    clear hr hr'
    go_wp2
    go_ret
    rw [HL.out]
    exact ipost_nil ((hb1.alloc (by omega) _).alloc (by simp; omega) _)

theorem meetL_pick {xs ys : List Int} (hx : rightB xs = true) (hy : rightB ys = true) : pickL (fun n => inB xs n && inB ys n) = meetL xs ys := by
  unfold meetL whichL
  rw [hx, hy]
  rfl


theorem lessL_pick {xs ys : List Int} (hx : rightB xs = true) (hy : rightB ys = true) : pickL (fun n => inB xs n && !inB ys n) = lessL xs ys := by
  unfold lessL whichL
  rw [hx, hy]
  rfl

set_option maxHeartbeats 1000000 in
theorem less_post (A A' : Option Addr) (n c n' c' : Nat) (xs ys : List Int) (w : World) (hr : RI w w.heap.size A n xs) (hr' : RI w w.heap.size A' n' ys) (hn : n ≤ maxLen) (hn' : n' ≤ maxLen)
    (hT : TabAt 0 Lib.deBruijn64tab w) (hB : 0 < w.heap.size) :
    Calls Tryd.prog 23 #[.slice A n c, .slice A' n' c'] w (IPost (lessL xs ys) w) := by
  have HT := Lib.hid hT
  clear hT
  by_cases hxy : (rightB xs && rightB ys) = true
  · have hx : Hid (rightB xs = true) := Lib.hid (by simp at hxy; exact hxy.1)
    have hy : Hid (rightB ys = true) := Lib.hid (by simp at hxy; exact hxy.2)
    clear hxy
    go_enter Tryd.func23, Tryd.ntmps23
    go_wp2_with fail
    refine (both_yes _ _ _ _ _ _ xs ys _ hr hr' hn hn' hx.out hy.out).mono ?_
    rintro e w1 ⟨⟨a0, a1, a2, a3, b0, b1, b2, b3, ha, hb, rfl⟩, hb1⟩
    have HA := Lib.hid ha
    have HBB := Lib.hid hb
    obtain ⟨ua0, ua1, ua2, ua3⟩ := four_lt ha
    obtain ⟨ub0, ub1, ub2, ub3⟩ := four_lt hb
    clear ha hb hr hr'
    have hz := hb1.size
    go_wp2_with fail
    refine (wless_any a0 a1 a2 a3 b0 b1 b2 b3 _ ua0 ua1 ua2 ua3 ub0 ub1 ub2 ub3).mono ?_
    rintro e w2 ⟨rfl, hb2⟩
    have hb3 : Below w.heap.size w w2 := ((hb1.alloc (by omega) _).alloc (by simp; omega) _).trans (hb2.mono (by simp; omega))
    have hz3 := hb3.size
    go_wp2_with fail
    refine (list_any _ _ _ _ _ (four_less HA.out HBB.out) _ (tab_below HT.out hb3 hB) (by omega)).mono ?_
    rintro e w3 ⟨⟨v, rfl, hown⟩, hb4⟩
    have HO := Lib.hid hown
    clear hown
    go_wp2
    go_ret
    have h := HO.out
    rw [lessL_pick hx.out hy.out] at h
    exact ipost_own h (hb3.trans (hb4.mono hz3))
  · have hno : (rightB xs && rightB ys) = false := by simpa using hxy
    have HL : Hid (lessL xs ys = []) := Lib.hid (whichL_wrong hno)
    have HN := Lib.hid hno
    clear hxy hno
    go_enter Tryd.func23, Tryd.ntmps23
    go_wp2_with fail
    refine (both_no _ _ _ _ _ _ xs ys _ hr hr' hn hn' HN.out).mono ?_
    rintro e w1 ⟨rfl, hb1⟩
    have hz := hb1.size
    clear hr hr'
    go_wp2
    go_ret
    rw [HL.out]
    exact ipost_nil ((hb1.alloc (by omega) _).alloc (by simp; omega) _)

theorem join_ops (A A' : Option Addr) (n c n' c' : Nat) (xs ys : List Int) (w : World) (hr : RI w w.heap.size A n xs) (hr' : RI w w.heap.size A' n' ys) (hn : n ≤ maxLen) (hn' : n' ≤ maxLen)
    (hT : TabAt 0 Lib.deBruijn64tab w) (hB : 0 < w.heap.size) :
    Calls Tryd.prog 9 #[.slice A n c, .slice A' n' c'] w (Gives (joinL xs ys) w) := (join_post A A' n c n' c' xs ys w hr hr' hn hn' hT hB).mono fun _ _ h => h.gives
theorem less_ops (A A' : Option Addr) (n c n' c' : Nat) (xs ys : List Int) (w : World) (hr : RI w w.heap.size A n xs) (hr' : RI w w.heap.size A' n' ys) (hn : n ≤ maxLen) (hn' : n' ≤ maxLen)
    (hT : TabAt 0 Lib.deBruijn64tab w) (hB : 0 < w.heap.size) :
    Calls Tryd.prog 23 #[.slice A n c, .slice A' n' c'] w (Gives (lessL xs ys) w) := (less_post A A' n c n' c' xs ys w hr hr' hn hn' hT hB).mono fun _ _ h => h.gives

end Go.Proofs.YtpoalgkgomljmaaDoor

namespace Go.Proofs.YtpoalgkgomljmaaDoor
open Go.RowKit
open Go.Shelf
attribute [local go_sem] alloc_drewN setCell_drewN

theorem four_zero {p : Int → Bool} {a0 a1 a2 a3 : Nat} (h : Four p a0 a1 a2 a3) : decide (a0 = 0 ∧ a1 = 0 ∧ a2 = 0 ∧ a3 = 0) = true ↔ ∀ n : Int, 0 ≤ n → n ≤ 255 → p n = false := by
  obtain ⟨rfl, rfl, rfl, rfl⟩ := h
  rw [decide_eq_true_eq]
  constructor
  · rintro ⟨h0, h1, h2, h3⟩ n g0 g1
    have hk : n / 64 = 0 ∨ n / 64 = 1 ∨ n / 64 = 2 ∨ n / 64 = 3 := by omega
    rcases hk with hk | hk | hk | hk
    · have := bitsTo_zero.1 h0 (n - 0).toNat (by omega)
      have e : ((64 * 0 + (n - 0).toNat : Nat) : Int) = n := by omega
      rwa [e] at this
    · have := bitsTo_zero.1 h1 (n - 64).toNat (by omega)
      have e : ((64 * 1 + (n - 64).toNat : Nat) : Int) = n := by omega
      rwa [e] at this
    · have := bitsTo_zero.1 h2 (n - 128).toNat (by omega)
      have e : ((64 * 2 + (n - 128).toNat : Nat) : Int) = n := by omega
      rwa [e] at this
    · have := bitsTo_zero.1 h3 (n - 192).toNat (by omega)
      have e : ((64 * 3 + (n - 192).toNat : Nat) : Int) = n := by omega
      rwa [e] at this
  · intro h
    exact ⟨bitsTo_zero.2 fun j hj => h _ (by omega) (by omega), bitsTo_zero.2 fun j hj => h _ (by omega) (by omega), bitsTo_zero.2 fun j hj => h _ (by omega) (by omega), bitsTo_zero.2 fun j hj => h _ (by omega) (by omega)⟩
theorem part_four {xs ys : List Int} (hx : rightB xs = true) (hy : rightB ys = true) {a0 a1 a2 a3 : Nat} (h : Four (fun n => inB xs n && !inB ys n) a0 a1 a2 a3) : decide (a0 = 0 ∧ a1 = 0 ∧ a2 = 0 ∧ a3 = 0) = partB xs ys := by
  rw [Bool.eq_iff_iff, four_zero h]
  unfold partB
  rw [hx, hy]
  simp only [Bool.and_self, Bool.true_and, List.all_eq_true]
  constructor
  · intro h n hn
    have := right_mem hx n hn
    have h2 := h n this.1 this.2
    have h3 : inB xs n = true := List.contains_iff_mem.2 hn
    rw [h3] at h2
    simpa [inB] using h2
  · intro h n _ _
    cases h3 : inB xs n with
    | false => rfl
    | true => have := h n (List.contains_iff_mem.1 h3); simpa [inB] using this
theorem apart_four {xs ys : List Int} (hx : rightB xs = true) (hy : rightB ys = true) {a0 a1 a2 a3 : Nat} (h : Four (fun n => inB xs n && inB ys n) a0 a1 a2 a3) : decide (a0 = 0 ∧ a1 = 0 ∧ a2 = 0 ∧ a3 = 0) = apartB xs ys := by
  rw [Bool.eq_iff_iff, four_zero h]
  unfold apartB
  rw [hx, hy]
  simp only [Bool.and_self, Bool.true_and, List.all_eq_true]
  constructor
  · intro h n hn
    have := right_mem hx n hn
    have h2 := h n this.1 this.2
    have h3 : inB xs n = true := List.contains_iff_mem.2 hn
    rw [h3] at h2
    simpa [inB] using h2
  · intro h n _ _
    cases h3 : inB xs n with
    | false => rfl
    | true => have := h n (List.contains_iff_mem.1 h3); simpa [inB] using this




theorem has_word {xs : List Int} {a i r x : Nat} (h : a = wordOf (inB xs) i) (hs : rightB xs = true) (hr : r < 64) (hx : x = 64 * i + r) : hasB xs (x : Int) = (bits .and .u64 ((a : Int) / 2 ^ r) 1 == 1) := by
  subst h
  have hlt : wordOf (inB xs) i / 2 ^ r < 18446744073709551616 := Nat.lt_of_le_of_lt (Nat.div_le_self _ _) (wordOf_lt _ _)
  have e : ((wordOf (inB xs) i : Nat) : Int) / 2 ^ r = ((wordOf (inB xs) i / 2 ^ r : Nat) : Int) := by simp
  have e2 : bits .and .u64 (((wordOf (inB xs) i / 2 ^ r : Nat) : Int)) 1 = ((wordOf (inB xs) i / 2 ^ r &&& 1 : Nat) : Int) := u64_and_nat _ 1 hlt (by omega)
  rw [e, e2, nat_mask1]
  have hb : hasB xs (x : Int) = (wordOf (inB xs) i).testBit r := by
    unfold wordOf
    rw [testBit_bitsTo, ← hx]
    unfold hasB inB
    simp [hs, hr]
  rw [hb, Nat.testBit_eq_decide_div_mod_eq, Bool.eq_iff_iff]
  simp
  omega



end Go.Proofs.YtpoalgkgomljmaaDoor

namespace Go.Proofs.YtpoalgkgomljmaaDoor
open Go.RowKit

section
variable {A A' : Option Addr} {n c n' c' : Nat} {xs ys : List Int} {w : World}
theorem s_isSet {v : Bool} (hr : RI w w.heap.size A n xs) (hn : n ≤ maxLen) (h : rightB xs = v) :
    Calls Tryd.prog 7 #[.slice A n c] w fun e w' => e = .returned (.bool v) ∧ Below w.heap.size w w' :=
  (right_any A n c xs w _ hr hn).mono fun _ _ ⟨h1, h2⟩ => ⟨by rw [h1, h], by rw [← h2]; exact Below.refl _ _⟩
theorem s_join (hr : RI w w.heap.size A n xs) (hr' : RI w w.heap.size A' n' ys) (hn : n ≤ maxLen) (hn' : n' ≤ maxLen) (hG : Glob w) :
    Calls Tryd.prog 9 #[.slice A n c, .slice A' n' c'] w (IPost (joinL xs ys) w) := join_post A A' n c n' c' xs ys w hr hr' hn hn' hG.tz hG.pos
theorem s_less (hr : RI w w.heap.size A n xs) (hr' : RI w w.heap.size A' n' ys) (hn : n ≤ maxLen) (hn' : n' ≤ maxLen) (hG : Glob w) :
    Calls Tryd.prog 23 #[.slice A n c, .slice A' n' c'] w (IPost (lessL xs ys) w) := less_post A A' n c n' c' xs ys w hr hr' hn hn' hG.tz hG.pos
end

end Go.Proofs.YtpoalgkgomljmaaDoor
