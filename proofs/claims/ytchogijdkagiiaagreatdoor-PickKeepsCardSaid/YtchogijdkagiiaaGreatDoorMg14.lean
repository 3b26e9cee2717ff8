/- The program's tagged and enough of layer 9, and the question that it hands to slices.DeleteFunc: what they answer. Written by gen/gen_matchpsuit.py. Go's slices.Index, Contains, IndexFunc and DeleteFunc of numbers, by walks over their own texts: what they answer; of a question that may make memory of its own. Go's slices.DeleteFunc of numbers in a row of one's own, by a walk over its text: what it answers; of a question that may make memory of its own. A region that draws its order, shown operation by operation: what holds of those that have come up, whatever the order, is kept by each that may come up next. No program's text is walked here. The program's Under and Above of layer 5 (graph): what they answer of any list of things. What the program's functions of layer 5 (graph) answer: the list of contracts that the statements' walks lean on, held. -/
import Derived.Test.YtchogijdkagiiaaGreatDoorMg13
import Derived.Test.YtchogijdkagiiaaGreatDoorMg04
import Derived.Test.YtchogijdkagiiaaGreatDoorMg05
import Derived.LoopTactic
import Derived.Shelf.Abstract
import Derived.Lib.SliceRun
import Derived.Laws.OwnMore
import Derived.Test.YtchogijdkagiiaaGreatDoorMg01
import Derived.Orders
import Derived.RegionTactic
namespace Go.Proofs.YtchogijdkagiiaaGreatDoor
open Go.RowKit

def tagD (tg t : ByteArray) : Bool := decide (t.size = 0 ∨ tg = t)
set_option maxRecDepth 100000 in
set_option maxHeartbeats 2000000 in
theorem tagged9_0 (k u : Int) (tg : ByteArray) (n c gp : Int) (t : ByteArray) (wh : Bool) (lo pr : Int) (w : World) (h0 : t.size = 0) :
    Calls Tryz.prog 104 #[.agg #[.int .i64 k, .int .i64 u, .string tg], .agg #[.int .i64 n, .int .i64 c, .int .i64 gp, .string t, .bool wh, .int .i64 lo, .int .i64 pr]] w fun e w' => e = .returned (.bool true) ∧ Below w.heap.size w w' := by
  obtain rfl := str_empty h0
  clear h0
  have HB : Hid (Below w.heap.size w ((w.alloc (.cells #[.int .i64 k, .int .i64 u, .string tg] 58)).alloc (.cells #[.int .i64 n, .int .i64 c, .int .i64 gp, .string ⟨#[]⟩, .bool wh, .int .i64 lo, .int .i64 pr] 27))) := Lib.hid (((Below.refl _ _).alloc (Nat.le_refl _) _).alloc (by simp) _)
  go_enter Tryz.func104, Tryz.ntmps104
  go_wp2
  go_ret
  exact ⟨rfl, HB.out⟩
set_option maxRecDepth 100000 in
set_option maxHeartbeats 2000000 in
theorem tagged9_1 (k u : Int) (tg : ByteArray) (n c gp : Int) (t : ByteArray) (wh : Bool) (lo pr : Int) (w : World) (h0 : t.size ≠ 0) (h1 : tg = t) :
    Calls Tryz.prog 104 #[.agg #[.int .i64 k, .int .i64 u, .string tg], .agg #[.int .i64 n, .int .i64 c, .int .i64 gp, .string t, .bool wh, .int .i64 lo, .int .i64 pr]] w fun e w' => e = .returned (.bool true) ∧ Below w.heap.size w w' := by
  have HB : Hid (Below w.heap.size w ((w.alloc (.cells #[.int .i64 k, .int .i64 u, .string tg] 58)).alloc (.cells #[.int .i64 n, .int .i64 c, .int .i64 gp, .string t, .bool wh, .int .i64 lo, .int .i64 pr] 27))) := Lib.hid (((Below.refl _ _).alloc (Nat.le_refl _) _).alloc (by simp) _)
  obtain ⟨f1, f2, f3, f4⟩ := str_facts h0
  subst h1
  go_enter Tryz.func104, Tryz.ntmps104
  go_wp2
  go_ret
  exact ⟨rfl, HB.out⟩
set_option maxRecDepth 100000 in
set_option maxHeartbeats 2000000 in
theorem tagged9_2 (k u : Int) (tg : ByteArray) (n c gp : Int) (t : ByteArray) (wh : Bool) (lo pr : Int) (w : World) (h0 : t.size ≠ 0) (h1 : tg ≠ t) :
    Calls Tryz.prog 104 #[.agg #[.int .i64 k, .int .i64 u, .string tg], .agg #[.int .i64 n, .int .i64 c, .int .i64 gp, .string t, .bool wh, .int .i64 lo, .int .i64 pr]] w fun e w' => e = .returned (.bool false) ∧ Below w.heap.size w w' := by
  have HB : Hid (Below w.heap.size w ((w.alloc (.cells #[.int .i64 k, .int .i64 u, .string tg] 58)).alloc (.cells #[.int .i64 n, .int .i64 c, .int .i64 gp, .string t, .bool wh, .int .i64 lo, .int .i64 pr] 27))) := Lib.hid (((Below.refl _ _).alloc (Nat.le_refl _) _).alloc (by simp) _)
  obtain ⟨f1, f2, f3, f4⟩ := str_facts h0
  obtain ⟨y1, y2, y3⟩ := str_ne h1
  clear h0 h1
  go_enter Tryz.func104, Tryz.ntmps104
  go_wp2
  go_ret
  exact ⟨rfl, HB.out⟩
theorem tagged9_any {k u : Int} {tg : ByteArray} {n c gp : Int} {t : ByteArray} {wh : Bool} {lo pr : Int} {w : World} {b : Bool} (h : tagD tg t = b) :
    Calls Tryz.prog 104 #[.agg #[.int .i64 k, .int .i64 u, .string tg], .agg #[.int .i64 n, .int .i64 c, .int .i64 gp, .string t, .bool wh, .int .i64 lo, .int .i64 pr]] w fun e w' => e = .returned (.bool b) ∧ Below w.heap.size w w' := by
  subst h
  by_cases h0 : t.size = 0
  · rw [show tagD tg t = true from decide_eq_true (.inl h0)]; exact tagged9_0 k u tg n c gp t wh lo pr w h0
  · by_cases h1 : tg = t
    · rw [show tagD tg t = true from decide_eq_true (.inr h1)]; exact tagged9_1 k u tg n c gp t wh lo pr w h0 h1
    · rw [show tagD tg t = false from decide_eq_false (fun e => e.elim h0 h1)]; exact tagged9_2 k u tg n c gp t wh lo pr w h0 h1

def enoughD (a2 a3 a4 c gp : Int) : Bool := decide (a2 = 1 ∧ c ≤ a3 ∧ gp ≤ a4)
set_option maxRecDepth 100000 in
set_option maxHeartbeats 2000000 in
theorem enough9_0 (a0 a1 a2 a3 a4 : Int) (n c gp : Int) (t : ByteArray) (wh : Bool) (lo pr : Int) (w : World) (h : ¬ a2 = 1) :
    Calls Tryz.prog 105 #[.agg #[.int .i64 a0, .int .i64 a1, .int .i64 a2, .int .i64 a3, .int .i64 a4], .agg #[.int .i64 n, .int .i64 c, .int .i64 gp, .string t, .bool wh, .int .i64 lo, .int .i64 pr]] w fun e w' => e = .returned (.bool false) ∧ Below w.heap.size w w' := by
  have HB : Hid (Below w.heap.size w ((w.alloc (.cells #[.int .i64 a0, .int .i64 a1, .int .i64 a2, .int .i64 a3, .int .i64 a4] 128)).alloc (.cells #[.int .i64 n, .int .i64 c, .int .i64 gp, .string t, .bool wh, .int .i64 lo, .int .i64 pr] 27))) := Lib.hid (((Below.refl _ _).alloc (Nat.le_refl _) _).alloc (by simp) _)
  have d2 : (a2 == 1) = false := by simpa using h
  go_enter Tryz.func105, Tryz.ntmps105
  go_wp2
  go_ret
  exact ⟨rfl, HB.out⟩
set_option maxRecDepth 100000 in
set_option maxHeartbeats 2000000 in
theorem enough9_1 (a0 a1 a2 a3 a4 : Int) (n c gp : Int) (t : ByteArray) (wh : Bool) (lo pr : Int) (w : World) (h : a2 = 1) (h3 : ¬ c ≤ a3) :
    Calls Tryz.prog 105 #[.agg #[.int .i64 a0, .int .i64 a1, .int .i64 a2, .int .i64 a3, .int .i64 a4], .agg #[.int .i64 n, .int .i64 c, .int .i64 gp, .string t, .bool wh, .int .i64 lo, .int .i64 pr]] w fun e w' => e = .returned (.bool false) ∧ Below w.heap.size w w' := by
  subst h
  have HB : Hid (Below w.heap.size w ((w.alloc (.cells #[.int .i64 a0, .int .i64 a1, .int .i64 1, .int .i64 a3, .int .i64 a4] 128)).alloc (.cells #[.int .i64 n, .int .i64 c, .int .i64 gp, .string t, .bool wh, .int .i64 lo, .int .i64 pr] 27))) := Lib.hid (((Below.refl _ _).alloc (Nat.le_refl _) _).alloc (by simp) _)
  have d3 : decide (c ≤ a3) = false := decide_eq_false h3
  go_enter Tryz.func105, Tryz.ntmps105
  go_wp2
  go_ret
  exact ⟨rfl, HB.out⟩
set_option maxRecDepth 100000 in
set_option maxHeartbeats 2000000 in
theorem enough9_2 (a0 a1 a2 a3 a4 : Int) (n c gp : Int) (t : ByteArray) (wh : Bool) (lo pr : Int) (w : World) (h : a2 = 1) (h3 : c ≤ a3) (h4 : ¬ gp ≤ a4) :
    Calls Tryz.prog 105 #[.agg #[.int .i64 a0, .int .i64 a1, .int .i64 a2, .int .i64 a3, .int .i64 a4], .agg #[.int .i64 n, .int .i64 c, .int .i64 gp, .string t, .bool wh, .int .i64 lo, .int .i64 pr]] w fun e w' => e = .returned (.bool false) ∧ Below w.heap.size w w' := by
  subst h
  have HB : Hid (Below w.heap.size w ((w.alloc (.cells #[.int .i64 a0, .int .i64 a1, .int .i64 1, .int .i64 a3, .int .i64 a4] 128)).alloc (.cells #[.int .i64 n, .int .i64 c, .int .i64 gp, .string t, .bool wh, .int .i64 lo, .int .i64 pr] 27))) := Lib.hid (((Below.refl _ _).alloc (Nat.le_refl _) _).alloc (by simp) _)
  have d3 : decide (c ≤ a3) = true := decide_eq_true h3
  have d4 : decide (gp ≤ a4) = false := decide_eq_false h4
  go_enter Tryz.func105, Tryz.ntmps105
  go_wp2
  go_ret
  exact ⟨rfl, HB.out⟩
set_option maxRecDepth 100000 in
set_option maxHeartbeats 2000000 in
theorem enough9_3 (a0 a1 a2 a3 a4 : Int) (n c gp : Int) (t : ByteArray) (wh : Bool) (lo pr : Int) (w : World) (h : a2 = 1) (h3 : c ≤ a3) (h4 : gp ≤ a4) :
    Calls Tryz.prog 105 #[.agg #[.int .i64 a0, .int .i64 a1, .int .i64 a2, .int .i64 a3, .int .i64 a4], .agg #[.int .i64 n, .int .i64 c, .int .i64 gp, .string t, .bool wh, .int .i64 lo, .int .i64 pr]] w fun e w' => e = .returned (.bool true) ∧ Below w.heap.size w w' := by
  subst h
  have HB : Hid (Below w.heap.size w ((w.alloc (.cells #[.int .i64 a0, .int .i64 a1, .int .i64 1, .int .i64 a3, .int .i64 a4] 128)).alloc (.cells #[.int .i64 n, .int .i64 c, .int .i64 gp, .string t, .bool wh, .int .i64 lo, .int .i64 pr] 27))) := Lib.hid (((Below.refl _ _).alloc (Nat.le_refl _) _).alloc (by simp) _)
  have d3 : decide (c ≤ a3) = true := decide_eq_true h3
  have d4 : decide (gp ≤ a4) = true := decide_eq_true h4
  go_enter Tryz.func105, Tryz.ntmps105
  go_wp2
  go_ret
  exact ⟨rfl, HB.out⟩
theorem enough9_any {a0 a1 a2 a3 a4 n c gp : Int} {t : ByteArray} {wh : Bool} {lo pr : Int} {w : World} {b : Bool} (h : enoughD a2 a3 a4 c gp = b) :
    Calls Tryz.prog 105 #[.agg #[.int .i64 a0, .int .i64 a1, .int .i64 a2, .int .i64 a3, .int .i64 a4], .agg #[.int .i64 n, .int .i64 c, .int .i64 gp, .string t, .bool wh, .int .i64 lo, .int .i64 pr]] w fun e w' => e = .returned (.bool b) ∧ Below w.heap.size w w' := by
  subst h
  unfold enoughD
  by_cases h : a2 = 1
  · by_cases h3 : c ≤ a3
    · by_cases h4 : gp ≤ a4
      · rw [decide_eq_true ⟨h, h3, h4⟩]; exact enough9_3 a0 a1 a2 a3 a4 n c gp t wh lo pr w h h3 h4
      · rw [decide_eq_false (fun e => h4 e.2.2)]; exact enough9_2 a0 a1 a2 a3 a4 n c gp t wh lo pr w h h3 h4
    · rw [decide_eq_false (fun e => h3 e.2.1)]; exact enough9_1 a0 a1 a2 a3 a4 n c gp t wh lo pr w h h3
  · rw [decide_eq_false (fun e => h e.1)]; exact enough9_0 a0 a1 a2 a3 a4 n c gp t wh lo pr w h

/-- == of two arrays of five -/
theorem run_eqK (a0 a1 a2 a3 a4 b0 b1 b2 b3 b4 : Int) (W : World) :
    (Op.equalIn 10000 128 (.agg #[.int .i64 a0, .int .i64 a1, .int .i64 a2, .int .i64 a3, .int .i64 a4]) (.agg #[.int .i64 b0, .int .i64 b1, .int .i64 b2, .int .i64 b3, .int .i64 b4])).run Tryz.prog W = .ok (decide (a0 = b0 ∧ a1 = b1 ∧ a2 = b2 ∧ a3 = b3 ∧ a4 = b4)) W := by
  obtain ⟨i, hi⟩ : ∃ i, Tryz.prog.info? 3 = some i := by
    cases h : Tryz.prog.info? 3 with
    | none => exact absurd (show (Tryz.prog.info? 3).isSome = true by kernel_rfl) (by rw [h]; simp)
    | some i => exact ⟨i, rfl⟩
  have hc : Tryz.prog.cellsOf 3 = 1 := by kernel_rfl
  rw [show (10000 : Nat) = 9999 + 1 from rfl, run_equalIn_array W 9999 _ _ Tryz.underlying128 hi, hc]
  have hu := Tryz.underlying3
  have hs := fun a b => run_equalIn_int (P := Tryz.prog) W 9998 3 .i64 .i64 a b hu
  rw [show List.range 5 = [0, 1, 2, 3, 4] from rfl]
  by_cases h0 : a0 = b0
  · subst h0
    by_cases h1 : a1 = b1
    · subst h1
      by_cases h2 : a2 = b2
      · subst h2
        by_cases h3 : a3 = b3
        · subst h3
          by_cases h4 : a4 = b4
          · subst h4
            simp [Op.eqItems, part, isAgg, run_underlying hu, hs]
          · simp [Op.eqItems, part, isAgg, run_underlying hu, hs, h4]
        · simp [Op.eqItems, part, isAgg, run_underlying hu, hs, h3]
      · simp [Op.eqItems, part, isAgg, run_underlying hu, hs, h2]
    · simp [Op.eqItems, part, isAgg, run_underlying hu, hs, h1]
  · simp [Op.eqItems, part, isAgg, run_underlying hu, hs, h0]

/-- what the question reaches: the graph, the spec, what is free at each node and what there is in all -/
structure Caps (bg bs bh ba hb ub : Nat) (A : Option Addr) (n c : Nat) (g : Gr) (s : Sp) (T U : Nat → Nat → Int) (w : World) : Prop where
  graph : RG w w.heap.size A n g
  few : n ≤ 256
  spec : BoxS w bs s
  cg : w.cell? ⟨bg, 0, none⟩ = some (.slice A n c) ∧ bg < w.heap.size
  ch : w.cell? ⟨bh, 0, none⟩ = some (.slice (some ⟨hb, 0, none⟩) n n) ∧ bh < w.heap.size
  ca : w.cell? ⟨ba, 0, none⟩ = some (.slice (some ⟨ub, 0, none⟩) n n) ∧ ba < w.heap.size
  have' : (∀ k c, k < n → c < 5 → w.cell? ⟨hb, k * 5 + c, none⟩ = some (.int .i64 (T k c))) ∧ hb < w.heap.size
  all : (∀ k c, k < n → c < 5 → w.cell? ⟨ub, k * 5 + c, none⟩ = some (.int .i64 (U k c))) ∧ ub < w.heap.size
section
variable {bg bs bh ba hb ub : Nat} {A : Option Addr} {n c : Nat} {g : Gr} {s : Sp} {T U : Nat → Nat → Int} {w w' : World}
/-- where one other block is turned, it stays -/
theorem Caps.but {x : Nat} (h : Caps bg bs bh ba hb ub A n c g s T U w) (hx : But x w w') (hr : RG w' w'.heap.size A n g) (hne : x ≠ bg ∧ x ≠ bs ∧ x ≠ bh ∧ x ≠ ba ∧ x ≠ hb ∧ x ≠ ub) : Caps bg bs bh ba hb ub A n c g s T U w' := by
  obtain ⟨n1, n2, n3, n4, n5, n6⟩ := hne
  have key : ∀ b, b < w.heap.size → x ≠ b → w'.heap[b]? = w.heap[b]? := fun b h1 h2 => hx.block b h1 (fun e => h2 e.symm)
  have sz := hx.size
  exact ⟨hr, h.few, ⟨Nat.lt_of_lt_of_le h.spec.lt sz, (key _ h.spec.lt n2).trans h.spec.at'⟩,
    ⟨(World.cell?_of_block (key _ h.cg.2 n1)).trans h.cg.1, by have := h.cg.2; omega⟩, ⟨(World.cell?_of_block (key _ h.ch.2 n3)).trans h.ch.1, by have := h.ch.2; omega⟩, ⟨(World.cell?_of_block (key _ h.ca.2 n4)).trans h.ca.1, by have := h.ca.2; omega⟩,
    ⟨fun k c hk hc => (World.cell?_of_block (key _ h.have'.2 n5)).trans (h.have'.1 k c hk hc), by have := h.have'.2; omega⟩, ⟨fun k c hk hc => (World.cell?_of_block (key _ h.all.2 n6)).trans (h.all.1 k c hk hc), by have := h.all.2; omega⟩⟩
theorem Caps.next (h : Caps bg bs bh ba hb ub A n c g s T U w) (hb' : Below w.heap.size w w') : Caps bg bs bh ba hb ub A n c g s T U w' :=
  h.but (x := w.heap.size) (But.of _ hb') (h.graph.next hb') ⟨by have := h.cg.2; omega, by have := h.spec.lt; omega, by have := h.ch.2; omega, by have := h.ca.2; omega, by have := h.have'.2; omega, by have := h.all.2; omega⟩
end
def closeB (T U : Nat → Nat → Int) (g : Gr) (s : Sp) (x : Nat) : Bool :=
  !(tagD (gt g x) s.tag && (enoughD (T x 2) (T x 3) (T x 4) s.cores s.gpus && (!s.whole || decide (T x 0 = U x 0 ∧ T x 1 = U x 1 ∧ T x 2 = U x 2 ∧ T x 3 = U x 3 ∧ T x 4 = U x 4))))

set_option maxRecDepth 100000 in
set_option maxHeartbeats 8000000 in
theorem close_0 (bg bs bh ba hb ub : Nat) (b off n c x : Nat) (kk uu : Int) (tt : ByteArray) (s : Sp) (a0 a1 a2 a3 a4 b0 b1 b2 b3 b4 : Int) (w : World) (_ : n ≤ 256) (hx : x < n) (BX : Hid (BoxS w bs s)) (hg : w.cell? ⟨bg, 0, none⟩ = some (.slice (some ⟨b, off, none⟩) n c)) (hgl : bg < w.heap.size) (_ : w.cell? ⟨bh, 0, none⟩ = some (.slice (some ⟨hb, 0, none⟩) n n)) (_ : bh < w.heap.size) (_ : w.cell? ⟨ba, 0, none⟩ = some (.slice (some ⟨ub, 0, none⟩) n n)) (_ : ba < w.heap.size) (hbl : b < w.heap.size) (_ : hb < w.heap.size) (_ : ub < w.heap.size) (t0 : w.cell? ⟨b, off + x * 3, none⟩ = some (.int .i64 kk)) (t1 : w.cell? ⟨b, off + x * 3 + 1, none⟩ = some (.int .i64 uu)) (t2 : w.cell? ⟨b, off + x * 3 + 2, none⟩ = some (.string tt)) (_ : w.cell? ⟨hb, x * 5, none⟩ = some (.int .i64 a0)) (_ : w.cell? ⟨hb, x * 5 + 1, none⟩ = some (.int .i64 a1)) (_ : w.cell? ⟨hb, x * 5 + 2, none⟩ = some (.int .i64 a2)) (_ : w.cell? ⟨hb, x * 5 + 3, none⟩ = some (.int .i64 a3)) (_ : w.cell? ⟨hb, x * 5 + 4, none⟩ = some (.int .i64 a4)) (_ : w.cell? ⟨ub, x * 5, none⟩ = some (.int .i64 b0)) (_ : w.cell? ⟨ub, x * 5 + 1, none⟩ = some (.int .i64 b1)) (_ : w.cell? ⟨ub, x * 5 + 2, none⟩ = some (.int .i64 b2)) (_ : w.cell? ⟨ub, x * 5 + 3, none⟩ = some (.int .i64 b3)) (_ : w.cell? ⟨ub, x * 5 + 4, none⟩ = some (.int .i64 b4)) (e1 : tagD tt s.tag = false) :
    Calls Tryz.prog 103 (#[.int .i64 x] ++ #[.pointer (some ⟨bg, 0, none⟩), .pointer (some ⟨bs, 0, none⟩), .pointer (some ⟨bh, 0, none⟩), .pointer (some ⟨ba, 0, none⟩)]) w fun e w' => e = .returned (.bool true) ∧ Below w.heap.size w w' := by
  have HB := Lib.hid (Below.refl w.heap.size w)
  have E1 := Lib.hid e1
  clear e1
  have hxz : (x : Int) < (n : Int) := by omega
  go_enter Tryz.func103, Tryz.ntmps103
  go_wp2
  have zc0 : ∀ p : Later w, p.now.cell? ⟨bs, 0, none⟩ = some (.int .i64 s.nodes) := fun _ => Later.cell BX.out.lt BX.out.c0
  have zc1 : ∀ p : Later w, p.now.cell? ⟨bs, 1, none⟩ = some (.int .i64 s.cores) := fun _ => Later.cell BX.out.lt BX.out.c1
  have zc2 : ∀ p : Later w, p.now.cell? ⟨bs, 2, none⟩ = some (.int .i64 s.gpus) := fun _ => Later.cell BX.out.lt BX.out.c2
  have zc3 : ∀ p : Later w, p.now.cell? ⟨bs, 3, none⟩ = some (.string s.tag) := fun _ => Later.cell BX.out.lt BX.out.c3
  have zc4 : ∀ p : Later w, p.now.cell? ⟨bs, 4, none⟩ = some (.bool s.whole) := fun _ => Later.cell BX.out.lt BX.out.c4
  have zc5 : ∀ p : Later w, p.now.cell? ⟨bs, 5, none⟩ = some (.int .i64 s.long) := fun _ => Later.cell BX.out.lt BX.out.c5
  have zc6 : ∀ p : Later w, p.now.cell? ⟨bs, 6, none⟩ = some (.int .i64 s.prio) := fun _ => Later.cell BX.out.lt BX.out.c6
  have zc7 : ∀ p : Later w, p.now.cell? ⟨bg, 0, none⟩ = some (.slice (some ⟨b, off, none⟩) n c) := fun _ => Later.cell hgl hg
  have zc8 : ∀ p : Later w, p.now.cell? ⟨b, off + x * 3, none⟩ = some (.int .i64 kk) := fun _ => Later.cell hbl t0
  have zc9 : ∀ p : Later w, p.now.cell? ⟨b, off + x * 3 + 1, none⟩ = some (.int .i64 uu) := fun _ => Later.cell hbl t1
  have zc10 : ∀ p : Later w, p.now.cell? ⟨b, off + x * 3 + 2, none⟩ = some (.string tt) := fun _ => Later.cell hbl t2
  refine wp_region_later (by kernel_rfl) (by kernel_rfl) ?_
  repeat (first | go_big_quiet_skip | (go_big_quiet_want; go_big_quiet_op; first | go_big_quiet_on | (apply Exists.intro; refine ⟨fun pz => ?_, ?_⟩; (first | (go_at_call 104; exact Calls.later_of (tagged9_any E1.out)) | fail); go_big_quiet_on)))
  refine wpQuiet_nil ?_
  intro _ hw'
  obtain ⟨pz, rfl⟩ := hw'
  obtain ⟨w1, hb⟩ := pz
  try dsimp only
  clear zc0 zc1 zc2 zc3 zc4 zc5 zc6 zc7 zc8 zc9 zc10
  replace HB := Lib.hid (HB.out.trans (hb.mono HB.out.size))
  clear hb
  go_wp2
  go_ret
  exact ⟨rfl, HB.out⟩
set_option maxRecDepth 100000 in
set_option maxHeartbeats 8000000 in
theorem close_1 (bg bs bh ba hb ub : Nat) (b off n c x : Nat) (kk uu : Int) (tt : ByteArray) (s : Sp) (a0 a1 a2 a3 a4 b0 b1 b2 b3 b4 : Int) (w : World) (_ : n ≤ 256) (hx : x < n) (BX : Hid (BoxS w bs s)) (hg : w.cell? ⟨bg, 0, none⟩ = some (.slice (some ⟨b, off, none⟩) n c)) (hgl : bg < w.heap.size) (hh : w.cell? ⟨bh, 0, none⟩ = some (.slice (some ⟨hb, 0, none⟩) n n)) (hhl : bh < w.heap.size) (_ : w.cell? ⟨ba, 0, none⟩ = some (.slice (some ⟨ub, 0, none⟩) n n)) (_ : ba < w.heap.size) (hbl : b < w.heap.size) (hhb : hb < w.heap.size) (_ : ub < w.heap.size) (t0 : w.cell? ⟨b, off + x * 3, none⟩ = some (.int .i64 kk)) (t1 : w.cell? ⟨b, off + x * 3 + 1, none⟩ = some (.int .i64 uu)) (t2 : w.cell? ⟨b, off + x * 3 + 2, none⟩ = some (.string tt)) (p0 : w.cell? ⟨hb, x * 5, none⟩ = some (.int .i64 a0)) (p1 : w.cell? ⟨hb, x * 5 + 1, none⟩ = some (.int .i64 a1)) (p2 : w.cell? ⟨hb, x * 5 + 2, none⟩ = some (.int .i64 a2)) (p3 : w.cell? ⟨hb, x * 5 + 3, none⟩ = some (.int .i64 a3)) (p4 : w.cell? ⟨hb, x * 5 + 4, none⟩ = some (.int .i64 a4)) (_ : w.cell? ⟨ub, x * 5, none⟩ = some (.int .i64 b0)) (_ : w.cell? ⟨ub, x * 5 + 1, none⟩ = some (.int .i64 b1)) (_ : w.cell? ⟨ub, x * 5 + 2, none⟩ = some (.int .i64 b2)) (_ : w.cell? ⟨ub, x * 5 + 3, none⟩ = some (.int .i64 b3)) (_ : w.cell? ⟨ub, x * 5 + 4, none⟩ = some (.int .i64 b4)) (e1 : tagD tt s.tag = true) (e2 : enoughD a2 a3 a4 s.cores s.gpus = false) :
    Calls Tryz.prog 103 (#[.int .i64 x] ++ #[.pointer (some ⟨bg, 0, none⟩), .pointer (some ⟨bs, 0, none⟩), .pointer (some ⟨bh, 0, none⟩), .pointer (some ⟨ba, 0, none⟩)]) w fun e w' => e = .returned (.bool true) ∧ Below w.heap.size w w' := by
  have HB := Lib.hid (Below.refl w.heap.size w)
  have E1 := Lib.hid e1
  clear e1
  have E2 := Lib.hid e2
  clear e2
  have hxz : (x : Int) < (n : Int) := by omega
  go_enter Tryz.func103, Tryz.ntmps103
  go_wp2
  have zc0 : ∀ p : Later w, p.now.cell? ⟨bs, 0, none⟩ = some (.int .i64 s.nodes) := fun _ => Later.cell BX.out.lt BX.out.c0
  have zc1 : ∀ p : Later w, p.now.cell? ⟨bs, 1, none⟩ = some (.int .i64 s.cores) := fun _ => Later.cell BX.out.lt BX.out.c1
  have zc2 : ∀ p : Later w, p.now.cell? ⟨bs, 2, none⟩ = some (.int .i64 s.gpus) := fun _ => Later.cell BX.out.lt BX.out.c2
  have zc3 : ∀ p : Later w, p.now.cell? ⟨bs, 3, none⟩ = some (.string s.tag) := fun _ => Later.cell BX.out.lt BX.out.c3
  have zc4 : ∀ p : Later w, p.now.cell? ⟨bs, 4, none⟩ = some (.bool s.whole) := fun _ => Later.cell BX.out.lt BX.out.c4
  have zc5 : ∀ p : Later w, p.now.cell? ⟨bs, 5, none⟩ = some (.int .i64 s.long) := fun _ => Later.cell BX.out.lt BX.out.c5
  have zc6 : ∀ p : Later w, p.now.cell? ⟨bs, 6, none⟩ = some (.int .i64 s.prio) := fun _ => Later.cell BX.out.lt BX.out.c6
  have zc7 : ∀ p : Later w, p.now.cell? ⟨bg, 0, none⟩ = some (.slice (some ⟨b, off, none⟩) n c) := fun _ => Later.cell hgl hg
  have zc8 : ∀ p : Later w, p.now.cell? ⟨b, off + x * 3, none⟩ = some (.int .i64 kk) := fun _ => Later.cell hbl t0
  have zc9 : ∀ p : Later w, p.now.cell? ⟨b, off + x * 3 + 1, none⟩ = some (.int .i64 uu) := fun _ => Later.cell hbl t1
  have zc10 : ∀ p : Later w, p.now.cell? ⟨b, off + x * 3 + 2, none⟩ = some (.string tt) := fun _ => Later.cell hbl t2
  have zc11 : ∀ p : Later w, p.now.cell? ⟨bh, 0, none⟩ = some (.slice (some ⟨hb, 0, none⟩) n n) := fun _ => Later.cell hhl hh
  have zc12 : ∀ p : Later w, p.now.cell? ⟨hb, x * 5, none⟩ = some (.int .i64 a0) := fun _ => Later.cell hhb p0
  have zc13 : ∀ p : Later w, p.now.cell? ⟨hb, x * 5 + 1, none⟩ = some (.int .i64 a1) := fun _ => Later.cell hhb p1
  have zc14 : ∀ p : Later w, p.now.cell? ⟨hb, x * 5 + 2, none⟩ = some (.int .i64 a2) := fun _ => Later.cell hhb p2
  have zc15 : ∀ p : Later w, p.now.cell? ⟨hb, x * 5 + 3, none⟩ = some (.int .i64 a3) := fun _ => Later.cell hhb p3
  have zc16 : ∀ p : Later w, p.now.cell? ⟨hb, x * 5 + 4, none⟩ = some (.int .i64 a4) := fun _ => Later.cell hhb p4
  refine wp_region_later (by kernel_rfl) (by kernel_rfl) ?_
  repeat (first | go_big_quiet_skip | (go_big_quiet_want; go_big_quiet_op; first | go_big_quiet_on | (apply Exists.intro; refine ⟨fun pz => ?_, ?_⟩; (first | (go_at_call 104; exact Calls.later_of (tagged9_any E1.out)) | (go_at_call 105; exact Calls.later_of (enough9_any E2.out)) | fail); go_big_quiet_on)))
  refine wpQuiet_nil ?_
  intro _ hw'
  obtain ⟨pz, rfl⟩ := hw'
  obtain ⟨w1, hb⟩ := pz
  try dsimp only
  clear zc0 zc1 zc2 zc3 zc4 zc5 zc6 zc7 zc8 zc9 zc10 zc11 zc12 zc13 zc14 zc15 zc16
  replace HB := Lib.hid (HB.out.trans (hb.mono HB.out.size))
  clear hb
  go_wp2
  go_ret
  exact ⟨rfl, HB.out⟩
set_option maxRecDepth 100000 in
set_option maxHeartbeats 8000000 in
theorem close_2 (bg bs bh ba hb ub : Nat) (b off n c x : Nat) (kk uu : Int) (tt : ByteArray) (s : Sp) (a0 a1 a2 a3 a4 b0 b1 b2 b3 b4 : Int) (w : World) (_ : n ≤ 256) (hx : x < n) (BX : Hid (BoxS w bs s)) (hg : w.cell? ⟨bg, 0, none⟩ = some (.slice (some ⟨b, off, none⟩) n c)) (hgl : bg < w.heap.size) (hh : w.cell? ⟨bh, 0, none⟩ = some (.slice (some ⟨hb, 0, none⟩) n n)) (hhl : bh < w.heap.size) (_ : w.cell? ⟨ba, 0, none⟩ = some (.slice (some ⟨ub, 0, none⟩) n n)) (_ : ba < w.heap.size) (hbl : b < w.heap.size) (hhb : hb < w.heap.size) (_ : ub < w.heap.size) (t0 : w.cell? ⟨b, off + x * 3, none⟩ = some (.int .i64 kk)) (t1 : w.cell? ⟨b, off + x * 3 + 1, none⟩ = some (.int .i64 uu)) (t2 : w.cell? ⟨b, off + x * 3 + 2, none⟩ = some (.string tt)) (p0 : w.cell? ⟨hb, x * 5, none⟩ = some (.int .i64 a0)) (p1 : w.cell? ⟨hb, x * 5 + 1, none⟩ = some (.int .i64 a1)) (p2 : w.cell? ⟨hb, x * 5 + 2, none⟩ = some (.int .i64 a2)) (p3 : w.cell? ⟨hb, x * 5 + 3, none⟩ = some (.int .i64 a3)) (p4 : w.cell? ⟨hb, x * 5 + 4, none⟩ = some (.int .i64 a4)) (_ : w.cell? ⟨ub, x * 5, none⟩ = some (.int .i64 b0)) (_ : w.cell? ⟨ub, x * 5 + 1, none⟩ = some (.int .i64 b1)) (_ : w.cell? ⟨ub, x * 5 + 2, none⟩ = some (.int .i64 b2)) (_ : w.cell? ⟨ub, x * 5 + 3, none⟩ = some (.int .i64 b3)) (_ : w.cell? ⟨ub, x * 5 + 4, none⟩ = some (.int .i64 b4)) (e1 : tagD tt s.tag = true) (e2 : enoughD a2 a3 a4 s.cores s.gpus = true) (hw : s.whole = false) :
    Calls Tryz.prog 103 (#[.int .i64 x] ++ #[.pointer (some ⟨bg, 0, none⟩), .pointer (some ⟨bs, 0, none⟩), .pointer (some ⟨bh, 0, none⟩), .pointer (some ⟨ba, 0, none⟩)]) w fun e w' => e = .returned (.bool false) ∧ Below w.heap.size w w' := by
  have HB := Lib.hid (Below.refl w.heap.size w)
  have E1 := Lib.hid e1
  clear e1
  have E2 := Lib.hid e2
  clear e2
  have hxz : (x : Int) < (n : Int) := by omega
  go_enter Tryz.func103, Tryz.ntmps103
  go_wp2
  have zc0 : ∀ p : Later w, p.now.cell? ⟨bs, 0, none⟩ = some (.int .i64 s.nodes) := fun _ => Later.cell BX.out.lt BX.out.c0
  have zc1 : ∀ p : Later w, p.now.cell? ⟨bs, 1, none⟩ = some (.int .i64 s.cores) := fun _ => Later.cell BX.out.lt BX.out.c1
  have zc2 : ∀ p : Later w, p.now.cell? ⟨bs, 2, none⟩ = some (.int .i64 s.gpus) := fun _ => Later.cell BX.out.lt BX.out.c2
  have zc3 : ∀ p : Later w, p.now.cell? ⟨bs, 3, none⟩ = some (.string s.tag) := fun _ => Later.cell BX.out.lt BX.out.c3
  have zc4 : ∀ p : Later w, p.now.cell? ⟨bs, 4, none⟩ = some (.bool false) := fun _ => Later.cell BX.out.lt (by rw [← hw]; exact BX.out.c4)
  have zc5 : ∀ p : Later w, p.now.cell? ⟨bs, 5, none⟩ = some (.int .i64 s.long) := fun _ => Later.cell BX.out.lt BX.out.c5
  have zc6 : ∀ p : Later w, p.now.cell? ⟨bs, 6, none⟩ = some (.int .i64 s.prio) := fun _ => Later.cell BX.out.lt BX.out.c6
  have zc7 : ∀ p : Later w, p.now.cell? ⟨bg, 0, none⟩ = some (.slice (some ⟨b, off, none⟩) n c) := fun _ => Later.cell hgl hg
  have zc8 : ∀ p : Later w, p.now.cell? ⟨b, off + x * 3, none⟩ = some (.int .i64 kk) := fun _ => Later.cell hbl t0
  have zc9 : ∀ p : Later w, p.now.cell? ⟨b, off + x * 3 + 1, none⟩ = some (.int .i64 uu) := fun _ => Later.cell hbl t1
  have zc10 : ∀ p : Later w, p.now.cell? ⟨b, off + x * 3 + 2, none⟩ = some (.string tt) := fun _ => Later.cell hbl t2
  have zc11 : ∀ p : Later w, p.now.cell? ⟨bh, 0, none⟩ = some (.slice (some ⟨hb, 0, none⟩) n n) := fun _ => Later.cell hhl hh
  have zc12 : ∀ p : Later w, p.now.cell? ⟨hb, x * 5, none⟩ = some (.int .i64 a0) := fun _ => Later.cell hhb p0
  have zc13 : ∀ p : Later w, p.now.cell? ⟨hb, x * 5 + 1, none⟩ = some (.int .i64 a1) := fun _ => Later.cell hhb p1
  have zc14 : ∀ p : Later w, p.now.cell? ⟨hb, x * 5 + 2, none⟩ = some (.int .i64 a2) := fun _ => Later.cell hhb p2
  have zc15 : ∀ p : Later w, p.now.cell? ⟨hb, x * 5 + 3, none⟩ = some (.int .i64 a3) := fun _ => Later.cell hhb p3
  have zc16 : ∀ p : Later w, p.now.cell? ⟨hb, x * 5 + 4, none⟩ = some (.int .i64 a4) := fun _ => Later.cell hhb p4
  refine wp_region_later (by kernel_rfl) (by kernel_rfl) ?_
  repeat (first | go_big_quiet_skip | (go_big_quiet_want; go_big_quiet_op; first | go_big_quiet_on | (apply Exists.intro; refine ⟨fun pz => ?_, ?_⟩; (first | (go_at_call 104; exact Calls.later_of (tagged9_any E1.out)) | (go_at_call 105; exact Calls.later_of (enough9_any E2.out)) | fail); go_big_quiet_on)))
  refine wpQuiet_nil ?_
  intro _ hw'
  obtain ⟨pz, rfl⟩ := hw'
  obtain ⟨w1, hb⟩ := pz
  try dsimp only
  clear zc0 zc1 zc2 zc3 zc4 zc5 zc6 zc7 zc8 zc9 zc10 zc11 zc12 zc13 zc14 zc15 zc16
  replace HB := Lib.hid (HB.out.trans (hb.mono HB.out.size))
  clear hb
  go_wp2
  go_ret
  exact ⟨rfl, HB.out⟩
set_option maxRecDepth 100000 in
set_option maxHeartbeats 8000000 in
theorem close_3 (bg bs bh ba hb ub : Nat) (b off n c x : Nat) (kk uu : Int) (tt : ByteArray) (s : Sp) (a0 a1 a2 a3 a4 b0 b1 b2 b3 b4 : Int) (w : World) (_ : n ≤ 256) (hx : x < n) (BX : Hid (BoxS w bs s)) (hg : w.cell? ⟨bg, 0, none⟩ = some (.slice (some ⟨b, off, none⟩) n c)) (hgl : bg < w.heap.size) (hh : w.cell? ⟨bh, 0, none⟩ = some (.slice (some ⟨hb, 0, none⟩) n n)) (hhl : bh < w.heap.size) (ha : w.cell? ⟨ba, 0, none⟩ = some (.slice (some ⟨ub, 0, none⟩) n n)) (hal : ba < w.heap.size) (hbl : b < w.heap.size) (hhb : hb < w.heap.size) (hub : ub < w.heap.size) (t0 : w.cell? ⟨b, off + x * 3, none⟩ = some (.int .i64 kk)) (t1 : w.cell? ⟨b, off + x * 3 + 1, none⟩ = some (.int .i64 uu)) (t2 : w.cell? ⟨b, off + x * 3 + 2, none⟩ = some (.string tt)) (p0 : w.cell? ⟨hb, x * 5, none⟩ = some (.int .i64 a0)) (p1 : w.cell? ⟨hb, x * 5 + 1, none⟩ = some (.int .i64 a1)) (p2 : w.cell? ⟨hb, x * 5 + 2, none⟩ = some (.int .i64 a2)) (p3 : w.cell? ⟨hb, x * 5 + 3, none⟩ = some (.int .i64 a3)) (p4 : w.cell? ⟨hb, x * 5 + 4, none⟩ = some (.int .i64 a4)) (q0 : w.cell? ⟨ub, x * 5, none⟩ = some (.int .i64 b0)) (q1 : w.cell? ⟨ub, x * 5 + 1, none⟩ = some (.int .i64 b1)) (q2 : w.cell? ⟨ub, x * 5 + 2, none⟩ = some (.int .i64 b2)) (q3 : w.cell? ⟨ub, x * 5 + 3, none⟩ = some (.int .i64 b3)) (q4 : w.cell? ⟨ub, x * 5 + 4, none⟩ = some (.int .i64 b4)) (e1 : tagD tt s.tag = true) (e2 : enoughD a2 a3 a4 s.cores s.gpus = true) (hw : s.whole = true) (e3 : decide (a0 = b0 ∧ a1 = b1 ∧ a2 = b2 ∧ a3 = b3 ∧ a4 = b4) = true) :
    Calls Tryz.prog 103 (#[.int .i64 x] ++ #[.pointer (some ⟨bg, 0, none⟩), .pointer (some ⟨bs, 0, none⟩), .pointer (some ⟨bh, 0, none⟩), .pointer (some ⟨ba, 0, none⟩)]) w fun e w' => e = .returned (.bool false) ∧ Below w.heap.size w w' := by
  have HB := Lib.hid (Below.refl w.heap.size w)
  have E1 := Lib.hid e1
  clear e1
  have E2 := Lib.hid e2
  clear e2
  have heq : ∀ W, _ := run_eqK a0 a1 a2 a3 a4 b0 b1 b2 b3 b4
  rw [e3] at heq
  clear e3
  have hxz : (x : Int) < (n : Int) := by omega
  go_enter Tryz.func103, Tryz.ntmps103
  go_wp2
  have zc0 : ∀ p : Later w, p.now.cell? ⟨bs, 0, none⟩ = some (.int .i64 s.nodes) := fun _ => Later.cell BX.out.lt BX.out.c0
  have zc1 : ∀ p : Later w, p.now.cell? ⟨bs, 1, none⟩ = some (.int .i64 s.cores) := fun _ => Later.cell BX.out.lt BX.out.c1
  have zc2 : ∀ p : Later w, p.now.cell? ⟨bs, 2, none⟩ = some (.int .i64 s.gpus) := fun _ => Later.cell BX.out.lt BX.out.c2
  have zc3 : ∀ p : Later w, p.now.cell? ⟨bs, 3, none⟩ = some (.string s.tag) := fun _ => Later.cell BX.out.lt BX.out.c3
  have zc4 : ∀ p : Later w, p.now.cell? ⟨bs, 4, none⟩ = some (.bool true) := fun _ => Later.cell BX.out.lt (by rw [← hw]; exact BX.out.c4)
  have zc5 : ∀ p : Later w, p.now.cell? ⟨bs, 5, none⟩ = some (.int .i64 s.long) := fun _ => Later.cell BX.out.lt BX.out.c5
  have zc6 : ∀ p : Later w, p.now.cell? ⟨bs, 6, none⟩ = some (.int .i64 s.prio) := fun _ => Later.cell BX.out.lt BX.out.c6
  have zc7 : ∀ p : Later w, p.now.cell? ⟨bg, 0, none⟩ = some (.slice (some ⟨b, off, none⟩) n c) := fun _ => Later.cell hgl hg
  have zc8 : ∀ p : Later w, p.now.cell? ⟨b, off + x * 3, none⟩ = some (.int .i64 kk) := fun _ => Later.cell hbl t0
  have zc9 : ∀ p : Later w, p.now.cell? ⟨b, off + x * 3 + 1, none⟩ = some (.int .i64 uu) := fun _ => Later.cell hbl t1
  have zc10 : ∀ p : Later w, p.now.cell? ⟨b, off + x * 3 + 2, none⟩ = some (.string tt) := fun _ => Later.cell hbl t2
  have zc11 : ∀ p : Later w, p.now.cell? ⟨bh, 0, none⟩ = some (.slice (some ⟨hb, 0, none⟩) n n) := fun _ => Later.cell hhl hh
  have zc12 : ∀ p : Later w, p.now.cell? ⟨hb, x * 5, none⟩ = some (.int .i64 a0) := fun _ => Later.cell hhb p0
  have zc13 : ∀ p : Later w, p.now.cell? ⟨hb, x * 5 + 1, none⟩ = some (.int .i64 a1) := fun _ => Later.cell hhb p1
  have zc14 : ∀ p : Later w, p.now.cell? ⟨hb, x * 5 + 2, none⟩ = some (.int .i64 a2) := fun _ => Later.cell hhb p2
  have zc15 : ∀ p : Later w, p.now.cell? ⟨hb, x * 5 + 3, none⟩ = some (.int .i64 a3) := fun _ => Later.cell hhb p3
  have zc16 : ∀ p : Later w, p.now.cell? ⟨hb, x * 5 + 4, none⟩ = some (.int .i64 a4) := fun _ => Later.cell hhb p4
  have zc17 : ∀ p : Later w, p.now.cell? ⟨ba, 0, none⟩ = some (.slice (some ⟨ub, 0, none⟩) n n) := fun _ => Later.cell hal ha
  have zc18 : ∀ p : Later w, p.now.cell? ⟨ub, x * 5, none⟩ = some (.int .i64 b0) := fun _ => Later.cell hub q0
  have zc19 : ∀ p : Later w, p.now.cell? ⟨ub, x * 5 + 1, none⟩ = some (.int .i64 b1) := fun _ => Later.cell hub q1
  have zc20 : ∀ p : Later w, p.now.cell? ⟨ub, x * 5 + 2, none⟩ = some (.int .i64 b2) := fun _ => Later.cell hub q2
  have zc21 : ∀ p : Later w, p.now.cell? ⟨ub, x * 5 + 3, none⟩ = some (.int .i64 b3) := fun _ => Later.cell hub q3
  have zc22 : ∀ p : Later w, p.now.cell? ⟨ub, x * 5 + 4, none⟩ = some (.int .i64 b4) := fun _ => Later.cell hub q4
  refine wp_region_later (by kernel_rfl) (by kernel_rfl) ?_
  repeat (first | go_big_quiet_skip | (go_big_quiet_want; go_big_quiet_op; first | go_big_quiet_on | (apply Exists.intro; refine ⟨fun pz => ?_, ?_⟩; (first | (go_at_call 104; exact Calls.later_of (tagged9_any E1.out)) | (go_at_call 105; exact Calls.later_of (enough9_any E2.out)) | fail); go_big_quiet_on)))
  refine wpQuiet_nil ?_
  intro _ hw'
  obtain ⟨pz, rfl⟩ := hw'
  obtain ⟨w1, hb⟩ := pz
  try dsimp only
  clear zc0 zc1 zc2 zc3 zc4 zc5 zc6 zc7 zc8 zc9 zc10 zc11 zc12 zc13 zc14 zc15 zc16 zc17 zc18 zc19 zc20 zc21 zc22
  replace HB := Lib.hid (HB.out.trans (hb.mono HB.out.size))
  clear hb
  go_wp2
  go_ret
  exact ⟨rfl, HB.out⟩
set_option maxRecDepth 100000 in
set_option maxHeartbeats 8000000 in
theorem close_4 (bg bs bh ba hb ub : Nat) (b off n c x : Nat) (kk uu : Int) (tt : ByteArray) (s : Sp) (a0 a1 a2 a3 a4 b0 b1 b2 b3 b4 : Int) (w : World) (_ : n ≤ 256) (hx : x < n) (BX : Hid (BoxS w bs s)) (hg : w.cell? ⟨bg, 0, none⟩ = some (.slice (some ⟨b, off, none⟩) n c)) (hgl : bg < w.heap.size) (hh : w.cell? ⟨bh, 0, none⟩ = some (.slice (some ⟨hb, 0, none⟩) n n)) (hhl : bh < w.heap.size) (ha : w.cell? ⟨ba, 0, none⟩ = some (.slice (some ⟨ub, 0, none⟩) n n)) (hal : ba < w.heap.size) (hbl : b < w.heap.size) (hhb : hb < w.heap.size) (hub : ub < w.heap.size) (t0 : w.cell? ⟨b, off + x * 3, none⟩ = some (.int .i64 kk)) (t1 : w.cell? ⟨b, off + x * 3 + 1, none⟩ = some (.int .i64 uu)) (t2 : w.cell? ⟨b, off + x * 3 + 2, none⟩ = some (.string tt)) (p0 : w.cell? ⟨hb, x * 5, none⟩ = some (.int .i64 a0)) (p1 : w.cell? ⟨hb, x * 5 + 1, none⟩ = some (.int .i64 a1)) (p2 : w.cell? ⟨hb, x * 5 + 2, none⟩ = some (.int .i64 a2)) (p3 : w.cell? ⟨hb, x * 5 + 3, none⟩ = some (.int .i64 a3)) (p4 : w.cell? ⟨hb, x * 5 + 4, none⟩ = some (.int .i64 a4)) (q0 : w.cell? ⟨ub, x * 5, none⟩ = some (.int .i64 b0)) (q1 : w.cell? ⟨ub, x * 5 + 1, none⟩ = some (.int .i64 b1)) (q2 : w.cell? ⟨ub, x * 5 + 2, none⟩ = some (.int .i64 b2)) (q3 : w.cell? ⟨ub, x * 5 + 3, none⟩ = some (.int .i64 b3)) (q4 : w.cell? ⟨ub, x * 5 + 4, none⟩ = some (.int .i64 b4)) (e1 : tagD tt s.tag = true) (e2 : enoughD a2 a3 a4 s.cores s.gpus = true) (hw : s.whole = true) (e3 : decide (a0 = b0 ∧ a1 = b1 ∧ a2 = b2 ∧ a3 = b3 ∧ a4 = b4) = false) :
    Calls Tryz.prog 103 (#[.int .i64 x] ++ #[.pointer (some ⟨bg, 0, none⟩), .pointer (some ⟨bs, 0, none⟩), .pointer (some ⟨bh, 0, none⟩), .pointer (some ⟨ba, 0, none⟩)]) w fun e w' => e = .returned (.bool true) ∧ Below w.heap.size w w' := by
  have HB := Lib.hid (Below.refl w.heap.size w)
  have E1 := Lib.hid e1
  clear e1
  have E2 := Lib.hid e2
  clear e2
  have heq : ∀ W, _ := run_eqK a0 a1 a2 a3 a4 b0 b1 b2 b3 b4
  rw [e3] at heq
  clear e3
  have hxz : (x : Int) < (n : Int) := by omega
  go_enter Tryz.func103, Tryz.ntmps103
  go_wp2
  have zc0 : ∀ p : Later w, p.now.cell? ⟨bs, 0, none⟩ = some (.int .i64 s.nodes) := fun _ => Later.cell BX.out.lt BX.out.c0
  have zc1 : ∀ p : Later w, p.now.cell? ⟨bs, 1, none⟩ = some (.int .i64 s.cores) := fun _ => Later.cell BX.out.lt BX.out.c1
  have zc2 : ∀ p : Later w, p.now.cell? ⟨bs, 2, none⟩ = some (.int .i64 s.gpus) := fun _ => Later.cell BX.out.lt BX.out.c2
  have zc3 : ∀ p : Later w, p.now.cell? ⟨bs, 3, none⟩ = some (.string s.tag) := fun _ => Later.cell BX.out.lt BX.out.c3
  have zc4 : ∀ p : Later w, p.now.cell? ⟨bs, 4, none⟩ = some (.bool true) := fun _ => Later.cell BX.out.lt (by rw [← hw]; exact BX.out.c4)
  have zc5 : ∀ p : Later w, p.now.cell? ⟨bs, 5, none⟩ = some (.int .i64 s.long) := fun _ => Later.cell BX.out.lt BX.out.c5
  have zc6 : ∀ p : Later w, p.now.cell? ⟨bs, 6, none⟩ = some (.int .i64 s.prio) := fun _ => Later.cell BX.out.lt BX.out.c6
  have zc7 : ∀ p : Later w, p.now.cell? ⟨bg, 0, none⟩ = some (.slice (some ⟨b, off, none⟩) n c) := fun _ => Later.cell hgl hg
  have zc8 : ∀ p : Later w, p.now.cell? ⟨b, off + x * 3, none⟩ = some (.int .i64 kk) := fun _ => Later.cell hbl t0
  have zc9 : ∀ p : Later w, p.now.cell? ⟨b, off + x * 3 + 1, none⟩ = some (.int .i64 uu) := fun _ => Later.cell hbl t1
  have zc10 : ∀ p : Later w, p.now.cell? ⟨b, off + x * 3 + 2, none⟩ = some (.string tt) := fun _ => Later.cell hbl t2
  have zc11 : ∀ p : Later w, p.now.cell? ⟨bh, 0, none⟩ = some (.slice (some ⟨hb, 0, none⟩) n n) := fun _ => Later.cell hhl hh
  have zc12 : ∀ p : Later w, p.now.cell? ⟨hb, x * 5, none⟩ = some (.int .i64 a0) := fun _ => Later.cell hhb p0
  have zc13 : ∀ p : Later w, p.now.cell? ⟨hb, x * 5 + 1, none⟩ = some (.int .i64 a1) := fun _ => Later.cell hhb p1
  have zc14 : ∀ p : Later w, p.now.cell? ⟨hb, x * 5 + 2, none⟩ = some (.int .i64 a2) := fun _ => Later.cell hhb p2
  have zc15 : ∀ p : Later w, p.now.cell? ⟨hb, x * 5 + 3, none⟩ = some (.int .i64 a3) := fun _ => Later.cell hhb p3
  have zc16 : ∀ p : Later w, p.now.cell? ⟨hb, x * 5 + 4, none⟩ = some (.int .i64 a4) := fun _ => Later.cell hhb p4
  have zc17 : ∀ p : Later w, p.now.cell? ⟨ba, 0, none⟩ = some (.slice (some ⟨ub, 0, none⟩) n n) := fun _ => Later.cell hal ha
  have zc18 : ∀ p : Later w, p.now.cell? ⟨ub, x * 5, none⟩ = some (.int .i64 b0) := fun _ => Later.cell hub q0
  have zc19 : ∀ p : Later w, p.now.cell? ⟨ub, x * 5 + 1, none⟩ = some (.int .i64 b1) := fun _ => Later.cell hub q1
  have zc20 : ∀ p : Later w, p.now.cell? ⟨ub, x * 5 + 2, none⟩ = some (.int .i64 b2) := fun _ => Later.cell hub q2
  have zc21 : ∀ p : Later w, p.now.cell? ⟨ub, x * 5 + 3, none⟩ = some (.int .i64 b3) := fun _ => Later.cell hub q3
  have zc22 : ∀ p : Later w, p.now.cell? ⟨ub, x * 5 + 4, none⟩ = some (.int .i64 b4) := fun _ => Later.cell hub q4
  refine wp_region_later (by kernel_rfl) (by kernel_rfl) ?_
  repeat (first | go_big_quiet_skip | (go_big_quiet_want; go_big_quiet_op; first | go_big_quiet_on | (apply Exists.intro; refine ⟨fun pz => ?_, ?_⟩; (first | (go_at_call 104; exact Calls.later_of (tagged9_any E1.out)) | (go_at_call 105; exact Calls.later_of (enough9_any E2.out)) | fail); go_big_quiet_on)))
  refine wpQuiet_nil ?_
  intro _ hw'
  obtain ⟨pz, rfl⟩ := hw'
  obtain ⟨w1, hb⟩ := pz
  try dsimp only
  clear zc0 zc1 zc2 zc3 zc4 zc5 zc6 zc7 zc8 zc9 zc10 zc11 zc12 zc13 zc14 zc15 zc16 zc17 zc18 zc19 zc20 zc21 zc22
  replace HB := Lib.hid (HB.out.trans (hb.mono HB.out.size))
  clear hb
  go_wp2
  go_ret
  exact ⟨rfl, HB.out⟩
theorem close_any {bg bs bh ba hb ub : Nat} {A : Option Addr} {n c : Nat} {g : Gr} {s : Sp} {T U : Nat → Nat → Int} {w : World} (h : Caps bg bs bh ba hb ub A n c g s T U w) {x : Nat} (hx : x < n) :
    Calls Tryz.prog 103 (#[.int .i64 x] ++ #[.pointer (some ⟨bg, 0, none⟩), .pointer (some ⟨bs, 0, none⟩), .pointer (some ⟨bh, 0, none⟩), .pointer (some ⟨ba, 0, none⟩)]) w fun e w' => e = .returned (.bool (closeB T U g s x)) ∧ Below w.heap.size w w' := by
  obtain ⟨b, off, rfl, hbl, hc0, hc1, hc2, _⟩ := h.graph.one hx
  have p0 := h.have'.1 x 0 hx (by omega)
  have q0 := h.all.1 x 0 hx (by omega)
  have p1 := h.have'.1 x 1 hx (by omega)
  have q1 := h.all.1 x 1 hx (by omega)
  have p2 := h.have'.1 x 2 hx (by omega)
  have q2 := h.all.1 x 2 hx (by omega)
  have p3 := h.have'.1 x 3 hx (by omega)
  have q3 := h.all.1 x 3 hx (by omega)
  have p4 := h.have'.1 x 4 hx (by omega)
  have q4 := h.all.1 x 4 hx (by omega)
  rw [Nat.add_zero] at p0 q0
  unfold closeB
  cases e1 : tagD (gt g x) s.tag with
  | false => exact close_0 bg bs bh ba hb ub b off n c x _ _ _ s _ _ _ _ _ _ _ _ _ _ w h.few hx (Lib.hid h.spec) h.cg.1 h.cg.2 h.ch.1 h.ch.2 h.ca.1 h.ca.2 hbl h.have'.2 h.all.2 hc0 hc1 hc2 p0 p1 p2 p3 p4 q0 q1 q2 q3 q4 e1
  | true =>
    cases e2 : enoughD (T x 2) (T x 3) (T x 4) s.cores s.gpus with
    | false => exact close_1 bg bs bh ba hb ub b off n c x _ _ _ s _ _ _ _ _ _ _ _ _ _ w h.few hx (Lib.hid h.spec) h.cg.1 h.cg.2 h.ch.1 h.ch.2 h.ca.1 h.ca.2 hbl h.have'.2 h.all.2 hc0 hc1 hc2 p0 p1 p2 p3 p4 q0 q1 q2 q3 q4 e1 e2
    | true =>
      by_cases hw : s.whole = true
      · rw [hw]
        cases e3 : decide (T x 0 = U x 0 ∧ T x 1 = U x 1 ∧ T x 2 = U x 2 ∧ T x 3 = U x 3 ∧ T x 4 = U x 4) with
        | true => exact close_3 bg bs bh ba hb ub b off n c x _ _ _ s _ _ _ _ _ _ _ _ _ _ w h.few hx (Lib.hid h.spec) h.cg.1 h.cg.2 h.ch.1 h.ch.2 h.ca.1 h.ca.2 hbl h.have'.2 h.all.2 hc0 hc1 hc2 p0 p1 p2 p3 p4 q0 q1 q2 q3 q4 e1 e2 hw e3
        | false => exact close_4 bg bs bh ba hb ub b off n c x _ _ _ s _ _ _ _ _ _ _ _ _ _ w h.few hx (Lib.hid h.spec) h.cg.1 h.cg.2 h.ch.1 h.ch.2 h.ca.1 h.ca.2 hbl h.have'.2 h.all.2 hc0 hc1 hc2 p0 p1 p2 p3 p4 q0 q1 q2 q3 q4 e1 e2 hw e3
      · have hw' : s.whole = false := by simpa using hw
        rw [hw']
        exact close_2 bg bs bh ba hb ub b off n c x _ _ _ s _ _ _ _ _ _ _ _ _ _ w h.few hx (Lib.hid h.spec) h.cg.1 h.cg.2 h.ch.1 h.ch.2 h.ca.1 h.ca.2 hbl h.have'.2 h.all.2 hc0 hc1 hc2 p0 p1 p2 p3 p4 q0 q1 q2 q3 q4 e1 e2 hw'

end Go.Proofs.YtchogijdkagiiaaGreatDoor

namespace Go.Proofs.YtchogijdkagiiaaGreatDoor
open Go.RowKit


/-- of the numbers none is asked for: or the first that is -/
def FirstOf (p : Int → Bool) (xs : List Int) (r : Int) : Prop := (r = -1 ∧ ∀ j, j < xs.length → p (xs.getD j 0) = false) ∨ ∃ k : Nat, k < xs.length ∧ r = (k : Int) ∧ p (xs.getD k 0) = true ∧ ∀ j, j < k → p (xs.getD j 0) = false
set_option maxRecDepth 100000 in
set_option maxHeartbeats 2000000 in
theorem indexFunc_any (fn : Nat) (cb : Array Value) (eg : ∀ args w, (callFunc fn args).run Tryz.prog w = .ok (.enter fn args) w) (p : Int → Bool) (A : Option Addr) (n c : Nat) (xs : List Int) (w : World) (hr : RI w w.heap.size A n xs) (hn : n ≤ maxLen)
    (hf : ∀ x ∈ xs, ∀ wx, Below w.heap.size w wx → Calls Tryz.prog fn (#[.int .i64 x] ++ cb) wx fun e w' => e = .returned (.bool (p x)) ∧ Below wx.heap.size wx w') :
    Calls Tryz.prog 129 #[.slice A n c, .func (.func fn) #[] cb] w fun e w' => (∃ r : Int, e = .returned (.int .i64 r) ∧ FirstOf p xs r) ∧ Below w.heap.size w w' := by
  have HR := Lib.hid hr
  have HL := Lib.hid hr.1
  have HF := Lib.hid hf
  unfold maxLen at hn
  clear hr hf
  go_enter Tryz.func129, Tryz.ntmps129
  go_wp2
  go_loopw [8] (fun i wr => ∃ k : Nat, k ≤ n ∧ i = .int .i64 k ∧ (∀ j, j < k → p (xs.getD j 0) = false) ∧ Below w.heap.size w wr) (fun i _ => n - (intOf i).toNat)
  case atStart => exact ⟨0, Nat.zero_le _, rfl, fun j hj => absurd hj (by omega), Below.refl _ _⟩
  case round =>
    obtain ⟨k, hk, rfl, hpre, hbel⟩ := hrel
    have HPRE := Lib.hid hpre
    have HB := Lib.hid hbel
    have HRw := Lib.hid (HR.out.below hbel)
    clear hpre hbel
    by_cases hlt : k < n
    · have hkl : k < xs.length := by rw [HL.out]; exact hlt
      obtain ⟨b, off, rfl, _, hc⟩ := HRw.out.one hlt
      obtain ⟨y, hy⟩ : ∃ y, xs.getD k 0 = y := ⟨_, rfl⟩
      have hym : y ∈ xs := by rw [← hy, List.getD, List.getElem?_eq_getElem hkl]; exact List.getElem_mem hkl
      have HC := Lib.hid (HF.out y hym _ HB.out)
      rw [hy] at hc
      have HY := Lib.hid hy
      have HKL := Lib.hid hkl
      clear hy hym hkl
      cases hp : p y with
      | true =>
        have HFO : Hid (FirstOf p xs (k : Int)) := Lib.hid (.inr ⟨k, HKL.out, rfl, by rw [HY.out]; exact hp, HPRE.out⟩)
        rw [hp] at HC
        go_wp2_with fail
        refine HC.out.mono ?_
        rintro e w4 ⟨rfl, hb⟩
        have HB4 := Lib.hid (HB.out.trans (hb.mono HB.out.size))
        clear hb
        go_wp2
        go_ret
        exact ⟨⟨_, rfl, HFO.out⟩, HB4.out⟩
      | false =>
        have HN : Hid (∀ j, j < k + 1 → p (xs.getD j 0) = false) := Lib.hid (fun j hj => by
          by_cases hjk : j = k
          · subst hjk; rw [HY.out]; exact hp
          · exact HPRE.out j (by omega))
        rw [hp] at HC
        go_wp2_with fail
        refine HC.out.mono ?_
        rintro e w4 ⟨rfl, hb⟩
        have HB4 := Lib.hid (HB.out.trans (hb.mono HB.out.size))
        clear hb
        go_wp2
        go_roundw
        case rel => exact ⟨k + 1, by omega, by go_num, HN.out, HB4.out⟩
        case measure => simp [intOf]; omega
    · have hkn : k = n := by omega
      subst hkn
      have HFO : Hid (FirstOf p xs (-1)) := Lib.hid (.inl ⟨rfl, fun j hj => HPRE.out j (by rw [← HL.out]; exact hj)⟩)
      go_wp2
      go_ret
      exact ⟨⟨_, rfl, HFO.out⟩, HB.out⟩

end Go.Proofs.YtchogijdkagiiaaGreatDoor

namespace Go.Proofs.YtchogijdkagiiaaGreatDoor
open Go.RowKit

/-- what is kept of the first b numbers stands ahead, a of them; from number b on the row is as it was -/
structure Pick (w wr : World) (g n cap : Nat) (xs : List Int) (p : Int → Bool) (a b : Nat) (wx : World) : Prop where
  row : ∃ L : List Int, wx.ownsRow w.heap.size 3 1 (.slice (some ⟨g, 0, none⟩) n cap) n (L.map (Value.int .i64)) ∧ L.take a = (xs.take b).filter (fun x => !p x) ∧ L.drop b = xs.drop b
  but : But g wr wx
  lt : a < b
  le : b ≤ n
section
variable {w wr wx w1 : World} {g n cap a b : Nat} {xs : List Int} {p : Int → Bool}
theorem Pick.next (h : Pick w wr g n cap xs p a b wx) (hb : Below wx.heap.size wx w1) : Pick w wr g n cap xs p a b w1 := by
  obtain ⟨L, h1, h2, h3⟩ := h.row
  refine ⟨⟨L, ⟨h1.1, h1.2.imp id ?_⟩, h2, h3⟩, h.but.next hb, h.lt, h.le⟩
  rintro ⟨g', cap', cur, e1, e2, e3, e4⟩
  exact ⟨g', cap', cur, e1, e2, (hb.block g' (Array.getElem?_eq_some_iff.1 e3).1).trans e3, e4⟩
theorem Pick.at (h : Pick w wr g n cap xs p a b wx) (hb : b < n) : wx.cell? ⟨g, b, none⟩ = some (.int .i64 (xs.getD b 0)) := by
  obtain ⟨L, h1, h2, h3⟩ := h.row
  have hL : L.length = n := by have := h1.1; rw [List.length_map] at this; omega
  rw [h1.cellAt b (by omega), List.getElem?_map]
  have e : L[b]? = xs[b]? := by
    have h4 := congrArg (fun l => l[0]?) h3
    simpa using h4
  have hb2 : L[b]? = some L[b] := List.getElem?_eq_getElem (by omega)
  rw [hb2] at e
  rw [hb2, List.getD, ← e]
  rfl
theorem Pick.slot (h : Pick w wr g n cap xs p a b wx) {j : Nat} (hj : j < n) : (∃ u, wx.cell? ⟨g, j, none⟩ = some u) ∧ wx.frozen? ⟨g, j, none⟩ = false := by
  obtain ⟨L, h1, h2, h3⟩ := h.row
  have hL : L.length = n := by have := h1.1; rw [List.length_map] at this; omega
  refine ⟨?_, h1.frozenAt j⟩
  rw [h1.cellAt j (by omega), List.getElem?_map, List.getElem?_eq_getElem (by omega)]
  exact ⟨_, rfl⟩
theorem take_filter {b : Nat} (p : Int → Bool) (hb : b < xs.length) : (xs.take (b + 1)).filter (fun x => !p x) = (xs.take b).filter (fun x => !p x) ++ (if p (xs.getD b 0) = true then [] else [xs.getD b 0]) := by
  have e : xs.getD b 0 = xs[b] := by rw [List.getD, List.getElem?_eq_getElem hb]; rfl
  rw [List.take_succ_eq_append_getElem hb, List.filter_append, e]
  congr 1
  cases h : p xs[b] <;> simp [h]
theorem Pick.skip (h : Pick w wr g n cap xs p a b wx) (hx : xs.length = n) (hb : b < n) (hp : p (xs.getD b 0) = true) : Pick w wr g n cap xs p a (b + 1) wx := by
  obtain ⟨L, h1, h2, h3⟩ := h.row
  refine ⟨⟨L, h1, ?_, ?_⟩, h.but, by have := h.lt; omega, by omega⟩
  · rw [take_filter p (by omega), if_pos hp, List.append_nil, h2]
  · have := congrArg (List.drop 1) h3
    rwa [List.drop_drop, List.drop_drop] at this
theorem Pick.keep (h : Pick w wr g n cap xs p a b wx) (hx : xs.length = n) (hb : b < n) (hp : p (xs.getD b 0) = false) : Pick w wr g n cap xs p (a + 1) (b + 1) (wx.setCell ⟨g, a, none⟩ (.int .i64 (xs.getD b 0))) := by
  obtain ⟨L, h1, h2, h3⟩ := h.row
  have hL : L.length = n := by have := h1.1; rw [List.length_map] at this; omega
  have hab := h.lt
  have hs := h1.stored a (.int .i64 (xs.getD b 0))
  refine ⟨⟨L.set a (xs.getD b 0), by rw [List.map_set]; exact hs.1, ?_, ?_⟩, h.but.set a _, by omega, by omega⟩
  · rw [take_filter p (by omega), if_neg (by rw [hp]; simp), ← h2, List.take_succ_eq_append_getElem (by rw [List.length_set]; omega), List.getElem_set_self, List.take_set_of_le (Nat.le_refl _)]
  · rw [List.drop_set, if_pos (by omega)]
    have := congrArg (List.drop 1) h3
    rwa [List.drop_drop, List.drop_drop] at this
theorem pick_start {k : Nat} (h : wr.ownsRow w.heap.size 3 1 (.slice (some ⟨g, 0, none⟩) n cap) n (xs.map (Value.int .i64))) (hx : xs.length = n) (hk : k < n) (hp : p (xs.getD k 0) = true) (ha : ∀ j, j < k → p (xs.getD j 0) = false) : Pick w wr g n cap xs p k (k + 1) wr := by
  refine ⟨⟨xs, h, ?_, rfl⟩, But.refl _ _, by omega, by omega⟩
  rw [take_filter p (by omega), if_pos hp, List.append_nil]
  symm
  rw [List.filter_eq_self]
  intro x hm
  obtain ⟨j, hj, e⟩ := List.getElem_of_mem hm
  rw [List.length_take] at hj
  have := ha j (by omega)
  rw [List.getD, List.getElem?_eq_getElem (by omega)] at this
  rw [List.getElem_take] at e
  rw [← e]
  simpa using this
theorem below_setCells {B : Nat} (hg : B ≤ g) : ∀ (vs : List Value) (o : Nat) (w1 : World), Below B w w1 → Below B w (w1.setCells g o vs)
  | [], _, _, h => h
  | v :: r, o, w1, h => by
    show Below B w ((w1.setCell ⟨g, o, none⟩ v).setCells g (o + 1) r)
    exact below_setCells hg r (o + 1) _ (h.setCell (p := ⟨g, o, none⟩) hg v)
theorem size_setCells' : ∀ (vs : List Value) (o : Nat) (w1 : World), (w1.setCells g o vs).heap.size = w1.heap.size
  | [], _, _ => rfl
  | v :: r, o, w1 => by
    show ((w1.setCell ⟨g, o, none⟩ v).setCells g (o + 1) r).heap.size = _
    rw [size_setCells' r]
    simp [World.setCell]
/-- all have been looked at, and what is over is cleared -/
theorem Pick.done (h : Pick w wr g n cap xs p a n wx) (hx : xs.length = n) (hn : n ≤ cap) (hw : Below w.heap.size w wr) (hg : g < wr.heap.size) (vs : List Value) :
    IPost (xs.filter fun x => !p x) w (.returned (.slice (some ⟨g, 0, none⟩) a cap)) (wx.setCells g a vs) := by
  obtain ⟨L, h1, h2, h3⟩ := h.row
  have hL : L.length = n := by have := h1.1; rw [List.length_map] at this; omega
  have hgl := h1.lt g rfl
  rw [show xs.take n = xs from List.take_of_length_le (by omega)] at h2
  have hla : a = (xs.filter fun x => !p x).length := by rw [← h2, List.length_take]; have := h.lt; omega
  refine ipost_mk ⟨hla.symm, fun ha => ⟨g, 0, rfl, by rw [size_setCells']; exact hgl.2, fun j hj => ?_⟩⟩ (fun e => by cases e) (by have := h.lt; omega) (below_setCells hgl.1 _ _ _ (hw.trans (h.but.below (by have := hw.size; have := hgl.1; omega) hg)))
  rw [World.cell?_setCells_out _ _ _ _ _ (fun _ _ => .inl (by show 0 + j < a; omega)), Nat.zero_add, h1.cellAt j (by have := h.lt; omega), ← h2, List.getElem?_map, List.getElem?_eq_getElem (by have := h.lt; omega), List.getD, List.getElem?_take_of_lt hj, List.getElem?_eq_getElem (by have := h.lt; omega)]
  rfl
end

theorem zero_int : ∀ w, (zeroValue 3).run Tryz.prog w = .ok (.int .i64 0) w := Tryz.zeroValue3
set_option maxRecDepth 100000 in
set_option maxHeartbeats 4000000 in
theorem deleteFunc_any (fn : Nat) (cb : Array Value) (eg : ∀ args w, (callFunc fn args).run Tryz.prog w = .ok (.enter fn args) w) (p : Int → Bool) (v : Value) (xs : List Int) (w wq : World) (h : ON EI 1 3 w v xs wq)
    (hf : ∀ x ∈ xs, ∀ wx, (∀ g, v.ownBlock = some g → But g wq wx) → Calls Tryz.prog fn (#[.int .i64 x] ++ cb) wx fun e w' => e = .returned (.bool (p x)) ∧ Below wx.heap.size wx w') :
    Calls Tryz.prog 101 #[v, .func (.func fn) #[] cb] wq (IPost (xs.filter fun x => !p x) w) := by
  obtain ⟨h1, h2⟩ := on_own h
  have hri : RI wq wq.heap.size _ _ xs := (h.reads ei_steady (by omega) (h.form.choose_spec.choose_spec.1)).ri
  obtain ⟨A, c, rfl, hnil, hcap⟩ := h.form
  have hmax : xs.length ≤ maxLen := by
    rcases h1.2 with ⟨_, h0⟩ | ⟨g, cap, cur, _, _, _, h3, h4, _⟩
    · rw [h0]; exact Nat.zero_le _
    · exact Nat.le_trans h3 h4
  have hri' : RI wq wq.heap.size A xs.length xs := (h.reads ei_steady (by omega) rfl).ri
  clear hri
  have hIF := indexFunc_any fn cb eg p A xs.length c xs wq hri' hmax (fun x hx wx hb => hf x hx wx (fun g _ => But.of g hb))
  have HB := Lib.hid h2
  have HF := Lib.hid hf
  have HO := Lib.hid h1
  have HI := Lib.hid hIF
  have HH := Lib.hid h
  have HCAP := Lib.hid hcap
  unfold maxLen at hmax
  clear h h1 h2 hf hIF hri' hnil hcap
  go_enter Tryz.func101, Tryz.ntmps101
  go_wp2_with fail
  refine HI.out.mono ?_
  rintro e w1 ⟨⟨r, rfl, hr⟩, hb⟩
  rcases hr with ⟨rfl, hall⟩ | ⟨k, hk, rfl, hp, hpre⟩
  · have HP : Hid (IPost (xs.filter fun x => !p x) w (.returned (.slice A xs.length c)) w1) := Lib.hid (by
      have e : (xs.filter fun x => !p x) = xs := by
        rw [List.filter_eq_self]
        intro x hm
        obtain ⟨j, hj, e⟩ := List.getElem_of_mem hm
        have := hall j hj
        rw [List.getD, List.getElem?_eq_getElem hj] at this
        rw [← e]
        simpa using this
      rw [e]
      exact (HH.out.next ei_steady hb).ipost)
    clear hb hall
    go_wp2
    go_ret
    exact HP.out
  · obtain ⟨g, rfl⟩ : ∃ g, A = some ⟨g, 0, none⟩ := by
      rcases HO.out.2 with ⟨e, h0⟩ | ⟨g, cap, cur, e, _⟩
      · omega
      · injection e with e _ _
        exact ⟨g, e⟩
    have HG := Lib.hid (HO.out.lt g rfl)
    have HPK : Hid (Pick w wq g xs.length c xs p k (k + 1) w1) := Lib.hid ((pick_start HO.out rfl hk hp hpre).next hb)
    have hkd : ((k : Int) == -1) = false := beq_eq_false_iff_ne.2 (by omega)
    obtain ⟨n, hn⟩ : ∃ n, xs.length = n := ⟨_, rfl⟩
    have HN := Lib.hid hn
    rw [hn] at HPK HCAP hk hmax ⊢
    clear hb hp hpre hn HI HO HH
    go_wp2
    go_loopw [5, 6] (fun i j wx => ∃ a b : Nat, i = .int .i64 a ∧ j = .int .i64 b ∧ Pick w wq g n c xs p a b wx) (fun _ j _ => n - (intOf j).toNat)
    case atStart => exact ⟨k, k + 1, rfl, by go_num, HPK.out⟩
    case round =>
      obtain ⟨a, b, rfl, rfl, hrel⟩ := hrel
      have HK := Lib.hid hrel
      clear hrel
      have hab := HK.out.lt
      have hbn := HK.out.le
      by_cases hlt : b < n
      · have hcb := HK.out.at hlt
        obtain ⟨y, hy⟩ : ∃ y, xs.getD b 0 = y := ⟨_, rfl⟩
        have hym : y ∈ xs := by rw [← hy, List.getD, List.getElem?_eq_getElem (by rw [HN.out]; exact hlt)]; exact List.getElem_mem _
        have HC := Lib.hid (HF.out y hym _ (fun g' e => by
          have e' : g = g' := by simpa [Value.ownBlock] using e
          rw [← e']; exact HK.out.but))
        rw [hy] at hcb
        have HY := Lib.hid hy
        clear hy hym
        cases hp : p y with
        | true =>
          rw [hp] at HC
          have HP : Hid (p (xs.getD b 0) = true) := Lib.hid (by rw [HY.out]; exact hp)
          go_wp2_with fail
          refine HC.out.mono ?_
          rintro e w4 ⟨rfl, hb⟩
          have HK4 := Lib.hid ((HK.out.next hb).skip HN.out hlt HP.out)
          clear hb
          go_wp2
          go_roundw
          case rel => exact ⟨a, b + 1, rfl, by go_num, HK4.out⟩
          case measure => simp [intOf]; omega
        | false =>
          rw [hp] at HC
          have HP : Hid (p (xs.getD b 0) = false) := Lib.hid (by rw [HY.out]; exact hp)
          go_wp2_with fail
          refine HC.out.mono ?_
          rintro e w4 ⟨rfl, hb⟩
          have HK4 := Lib.hid ((HK.out.next hb).keep HN.out hlt HP.out)
          rw [HY.out] at HK4
          obtain ⟨⟨u, hu⟩, hfz⟩ := (HK.out.next hb).slot (j := a) (by omega)
          have haz : (a : Int) < (n : Int) := by omega
          clear hb
          go_wp2
          go_roundw
          case rel => exact ⟨a + 1, b + 1, by go_num, by go_num, HK4.out⟩
          case measure => simp [intOf]; omega
      · obtain rfl : b = n := by omega
        have hcl : ∀ ty, (Builtin.clear_ #[23] ty #[.slice (some ⟨g, a, none⟩) (b - a) (c - a)]).run Tryz.prog wr = .ok (.tuple #[]) (wr.setCells g a (List.replicate (b - a) (.int .i64 0))) :=
          fun ty => Lib.run_clear_slice wr _ _ ty _ Tryz.underlying23 zero_int rfl rfl g a _ _ (by omega) (fun t ht => by
            obtain ⟨⟨u, hu⟩, _⟩ := HK.out.slot (j := a + t) (by omega)
            rw [hu]; rfl) (fun t ht => (HK.out.slot (j := a + t) (by omega)).2)
        have HD := Lib.hid (HK.out.done HN.out HCAP.out HB.out HG.out.2 (List.replicate (b - a) (.int .i64 0)))
        have hcz := HCAP.out
        go_wp2
        go_ret
        exact HD.out

end Go.Proofs.YtchogijdkagiiaaGreatDoor

namespace Go.Proofs.YtchogijdkagiiaaGreatDoor
open Go.RowKit

theorem filter_fewer {p q : Nat → Bool} (h : ∀ j, q j = true → p j = true) {i : Nat} : ∀ {l : List Nat}, i ∈ l → p i = true → q i = false → (l.filter q).length < (l.filter p).length
  | [], hi, _, _ => by cases hi
  | j :: r, hi, hp, hq => by
    have hle : ∀ l : List Nat, (l.filter q).length ≤ (l.filter p).length := fun l => by
      induction l with
      | nil => exact Nat.le_refl _
      | cons x r ih =>
        rw [List.filter_cons, List.filter_cons]
        by_cases hx : q x = true
        · rw [if_pos hx, if_pos (h x hx)]; simp; exact ih
        · rw [if_neg hx]
          split
          · simp; omega
          · exact ih
    rw [List.filter_cons, List.filter_cons]
    rcases List.mem_cons.1 hi with e | e
    · subst e
      rw [if_neg (by rw [hq]; simp), if_pos hp]
      have := hle r
      simp; omega
    · have := filter_fewer h e hp hq
      by_cases hx : q j = true
      · rw [if_pos hx, if_pos (h j hx)]; simp; exact this
      · rw [if_neg hx]
        split
        · simp; omega
        · exact this
theorem getD_set (l : Array Bool) (i k : Nat) (d : Bool) (hi : i < l.size) : (l.setIfInBounds i true).getD k d = (if k = i then true else l.getD k d) := by
  rw [Array.getD_eq_getD_getElem?, Array.getD_eq_getD_getElem?, Array.getElem?_setIfInBounds]
  by_cases h : i = k
  · subst h; simp [hi]
  · rw [if_neg h, if_neg (Ne.symm h)]
section
variable {P : Program} {ops : Array Oper} {Q : Exit → Act → World → Prop} {Inv : (Nat → Bool) → Act → World → Prop}
theorem wpAny_inv
    (hstep : ∀ (L : Nat → Bool) (i : Nat) (o : Oper) (a : Act) (w : World), ops[i]? = some o → L i = false → (∀ e ∈ o.after, Region.binds .any e = true → L e.on = true) → Inv L a w →
      ∀ K : Act → World → Prop, (∀ a w, Inv (fun k => k == i || L k) a w → K a w) → if Region.wanted o (yielded ops a.tmps) = true then Oper.wp P o a w K Q else K (a.put o.dst undef) w)
    (hend : ∀ (L : Nat → Bool) (a : Act) (w : World), (∀ i o, ops[i]? = some o → L i = false → ∃ e ∈ o.after, Region.binds .any e = true ∧ L e.on = false) → Inv L a w → Q .normal a w) :
    ∀ (fuel : Nat) (listed : Array Bool) (a : Act) (w : World), listed.size = ops.size → ((List.range ops.size).filter fun i => !listed.getD i true).length ≤ fuel → Inv (fun k => listed.getD k false) a w → wpAny P .any ops Q fuel listed a w := by
  have same : ∀ (listed : Array Bool) (i : Nat), i < listed.size → listed.getD i true = listed.getD i false := fun listed i hi => by
    unfold Array.getD
    rw [dif_pos hi, dif_pos hi]
  have fin : ∀ (listed : Array Bool) (a : Act) (w : World), listed.size = ops.size → Region.ready .any ops listed = [] → Inv (fun k => listed.getD k false) a w → Q .normal a w := by
    intro listed a w hsz hr hI
    refine hend _ a w (fun i o ho hL => ?_) hI
    have hi : i < ops.size := (Array.getElem?_eq_some_iff.1 ho).1
    unfold Region.ready at hr
    have h1 := List.filter_eq_nil_iff.1 hr i (List.mem_range.2 hi)
    rw [same listed i (by omega), ho] at h1
    have h2 : (!listed.getD i false) = true := by simpa using hL
    rw [h2, Bool.true_and] at h1
    simp only [Option.map_some, Option.getD_some] at h1
    rw [Array.all_eq_true'] at h1
    obtain ⟨e, he⟩ := Classical.not_forall.1 h1
    obtain ⟨he1, he2⟩ := Classical.not_imp.1 he
    refine ⟨e, he1, ?_⟩
    cases hb : Region.binds .any e with
    | false => rw [hb] at he2; simp at he2
    | true =>
      rw [hb] at he2
      exact ⟨rfl, by simpa using he2⟩
  intro fuel
  induction fuel with
  | zero =>
    intro listed a w hsz hf hI
    have hr : Region.ready .any ops listed = [] := by
      have h0 : ((List.range ops.size).filter fun i => !listed.getD i true) = [] := List.eq_nil_of_length_eq_zero (by omega)
      unfold Region.ready
      rw [List.filter_eq_nil_iff] at h0 ⊢
      intro i hi
      have := h0 i hi
      rw [Bool.not_eq_true] at this
      rw [this]
      simp
    exact ⟨hr, fin listed a w hsz hr hI⟩
  | succ fuel ih =>
    intro listed a w hsz hf hI
    refine ⟨fun hr => fin listed a w hsz hr hI, fun i hi => ?_⟩
    unfold Region.ready at hi
    rw [List.mem_filter, List.mem_range, Bool.and_eq_true] at hi
    obtain ⟨hil, hi1, hi2⟩ := hi
    obtain ⟨o, ho⟩ : ∃ o, ops[i]? = some o := ⟨_, Array.getElem?_eq_getElem hil⟩
    rw [ho] at hi2
    simp only [Option.map_some, Option.getD_some] at hi2
    rw [Array.all_eq_true'] at hi2
    refine wpOp_step ho fun K' hK => ?_
    refine hstep _ i o a w ho (by rw [same listed i (by omega)] at hi1; simpa using hi1) (fun e he hb => ?_) hI K' (fun a' w' hI' => hK a' w' ?_)
    · have := hi2 e he
      rw [hb] at this
      simpa using this
    · refine ih _ a' w' (by simpa using hsz) ?_ ?_
      · have hlt := filter_fewer (p := fun j => !listed.getD j true) (q := fun j => !(listed.setIfInBounds i true).getD j true) (i := i) (l := List.range ops.size) (fun j hj => by
          by_cases hji : j = i
          · subst hji
            exact hi1
          · rw [getD_set _ _ _ _ (by omega), if_neg hji] at hj
            exact hj) (List.mem_range.2 hil) hi1 (by rw [getD_set _ _ _ _ (by omega), if_pos rfl]; rfl)
        omega
      · have e : (fun k => (listed.setIfInBounds i true).getD k false) = fun k => k == i || listed.getD k false := by
          funext k
          rw [getD_set _ _ _ _ (by omega)]
          by_cases hki : k = i
          · subst hki; simp
          · simp [hki]
        rw [e]; exact hI'
/-- the region, by what holds of the operations that have come up -/
theorem wp_region_inv {id : Nat} {a : Act} {w : World} (hm : P.follows .mixedOrders = true) (h0 : Inv (fun _ => false) a { w with drawn := w.drawn + 1 })
    (hstep : ∀ (L : Nat → Bool) (i : Nat) (o : Oper) (a : Act) (w : World), ops[i]? = some o → L i = false → (∀ e ∈ o.after, Region.binds .any e = true → L e.on = true) → Inv L a w →
      ∀ K : Act → World → Prop, (∀ a w, Inv (fun k => k == i || L k) a w → K a w) → if Region.wanted o (yielded ops a.tmps) = true then Oper.wp P o a w K Q else K (a.put o.dst undef) w)
    (hend : ∀ (L : Nat → Bool) (a : Act) (w : World), (∀ i o, ops[i]? = some o → L i = false → ∃ e ∈ o.after, Region.binds .any e = true ∧ L e.on = false) → Inv L a w → Q .normal a w) : (Code.region id ops true).wp P Q a w := by
  refine wp_region_any hm (wpAny_inv hstep hend _ _ a _ (by simp) ?_ ?_)
  · refine Nat.le_trans (List.length_filter_le _ _) ?_
    simp
  · have e : (fun k => (Array.replicate ops.size false).getD k false) = fun _ => false := by
      funext k
      unfold Array.getD
      split
      · simp
      · rfl
    rw [e]; exact h0
end

end Go.Proofs.YtchogijdkagiiaaGreatDoor

namespace Go.Proofs.YtchogijdkagiiaaGreatDoor
open Go.RowKit

theorem underL_yes {g : Gr} {k : Nat} (h : rightG g = true) (hk : k < g.length) : underL g (k : Int) = numsF (overG g k) g.length := by
  unfold underL
  rw [if_pos ⟨h, by omega, by omega⟩, Int.toNat_natCast]
theorem underL_no {g : Gr} {a : Int} (h : thereB g a = false) : underL g a = [] := by
  unfold underL
  rw [if_neg (fun h' => by rw [thereB_is.2 h'] at h; cases h)]
/-- the marks of what is under a, as far as i -/
def undM (g : Gr) (a i : Nat) : Nat → Bool := fun j => decide (j < i) && overG g a j
theorem undM_start (g : Gr) (a : Nat) : ∀ k, mset (fun _ => false) a true k = undM g a (a + 1) k := by
  intro k
  unfold undM
  by_cases h : k = a
  · subst h; rw [mset_same, over_self, decide_eq_true (by omega)]; rfl
  · rw [mset_other _ _ h]
    by_cases h' : k < a + 1
    · have : overG g a k = false := by
        cases ho : overG g a k with
        | false => rfl
        | true => exact absurd (over_le ho) (by omega)
      rw [this, Bool.and_false]
    · rw [decide_eq_false h', Bool.false_and]
theorem undM_step {g : Gr} (hg : RightG g) {a i : Nat} (hi : i < g.length) (ha : a < i) : ∀ k, mset (undM g a i) i (undM g a i (par g i)) k = undM g a (i + 1) k := by
  intro k
  have hp := (hg.up i (by omega) hi).2
  have e : undM g a i (par g i) = overG g a i := by
    unfold undM
    rw [decide_eq_true hp, Bool.true_and, over_up hg hi ha]
  by_cases h : k = i
  · subst h; rw [mset_same, e]; unfold undM; rw [decide_eq_true (by omega), Bool.true_and]
  · rw [mset_other _ _ h]
    unfold undM
    by_cases h' : k < i
    · rw [decide_eq_true h', decide_eq_true (by omega)]
    · rw [decide_eq_false h', decide_eq_false (by omega)]

set_option maxRecDepth 100000 in
set_option maxHeartbeats 4000000 in
theorem under_any (A : Option Addr) (n c : Nat) (g : Gr) (a : Int) (w : World) (h : GAsk w A n c g) (_ : I64 a) :
    Calls Tryz.prog 100 #[.slice A n c, .int .i64 a] w (IPost (underL g a) w) := by
  have HN : Hid (n ≤ maxLen) := Lib.hid (ml300 h.few)
  have HR := Lib.hid h.reads
  have HL := Lib.hid h.reads.len
  clear h
  cases ht : thereB g a with
  | false =>
    rw [underL_no ht]
    have HT := Lib.hid ht
    clear ht
    go_enter Tryz.func100, Tryz.ntmps100
    go_wp2_with fail
    refine (there_b HR.out HN.out HT.out).mono ?_
    rintro e w1 ⟨rfl, hb⟩
    have HB := Lib.hid hb
    clear hb
    go_wp2
    go_ret
    exact ipost_nil HB.out
  | true =>
    obtain ⟨hg, ha0, han⟩ := thereB_is.1 ht
    have HT := Lib.hid ht
    have HG := Lib.hid (rightG_is hg)
    obtain ⟨k0, rfl⟩ : ∃ k0 : Nat, a = (k0 : Int) := ⟨a.toNat, by omega⟩
    have hk0 : k0 < n := by have := HL.out; omega
    have hn256 : n ≤ 256 := by have := HG.out.few; have := HL.out; omega
    have hk256 : k0 < 256 := by omega
    have HRES : Hid (underL g (k0 : Int) = numsF (overG g k0) n) := Lib.hid (by rw [underL_yes hg (by have := HL.out; omega), HL.out])
    clear ht hg ha0 han
    go_enter Tryz.func100, Tryz.ntmps100
    go_wp2_with fail
    refine (there_b HR.out HN.out HT.out).mono ?_
    rintro e w1 ⟨rfl, hb⟩
    have HB := Lib.hid hb
    have HR1 := Lib.hid (HR.out.next hb)
    clear hb
    go_wp2_with (with_reducible refine wpList_alloc_marks rfl rfl ?_; intro w2 hm; refine Hid.out ?_)
    refine Lib.hid ?_
    have hc := hm.cell hk256
    have hf := hm.frozen k0
    have HM2 : Hid (Marks w1 (undM g k0 (k0 + 1)) (w2.setCell ⟨w1.heap.size, k0, none⟩ (.bool true))) := Lib.hid ((hm.set true).ext (fun j _ => undM_start g k0 j))
    clear hm
    go_wp2
    clear hc hf
    go_loopw [6] (fun i wr => ∃ k : Nat, k0 < k ∧ k ≤ n ∧ i = .int .i64 k ∧ Marks w1 (undM g k0 k) wr) (fun i _ => n - (intOf i).toNat)
    case atStart => exact ⟨k0 + 1, by omega, by omega, by go_num, HM2.out⟩
    case round =>
      obtain ⟨k, hk0k, hk, rfl, hm⟩ := hrel
      by_cases hlt : k < n
      · have HMk := Lib.hid hm
        have HRk := Lib.hid (HR1.out.next hm.bel)
        have hkl : k < g.length := by have := HL.out; omega
        have hup := HG.out.up k (by omega) hkl
        have HST := Lib.hid (undM_step HG.out hkl hk0k)
        obtain ⟨b, off, rfl, hbw, _, hc1, _, _⟩ := HRk.out.one hlt
        obtain ⟨p, hp⟩ : ∃ p, par g k = p := ⟨_, rfl⟩
        have hu : gu g k = (p : Int) := by unfold par at hp; omega
        rw [hu] at hc1
        rw [hp] at hup HST
        have hpk := hup.2
        have hp256 : p < 256 := by omega
        have hk256' : k < 256 := by omega
        have hcp := hm.cell hp256
        have hck := hm.cell hk256'
        have hfk := hm.frozen k
        have HM3 : Hid (Marks w1 (undM g k0 (k + 1)) (wr.setCell ⟨w1.heap.size, k, none⟩ (.bool (undM g k0 k p)))) := Lib.hid ((hm.set _).ext (fun j _ => HST.out j))
        generalize undM g k0 k p = bp at *
        clear hu hp hup hm hkl HST
        go_wp2
        clear hcp hck hfk hc1
        go_roundw
        case rel => exact ⟨k + 1, by omega, by omega, by go_num, HM3.out⟩
        case measure => simp [intOf]; omega
      · have hkn : k = n := by omega
        subst hkn
        have HM := Lib.hid hm
        have HBM := Lib.hid (HB.out.trans (hm.bel.mono HB.out.size))
        have e1 : Hid (numsF (undM g k0 k) 256 = underL g (k0 : Int)) := Lib.hid (by rw [HRES.out]; exact numsF_cut hn256)
        clear hm
        go_wp2_with (with_reducible refine wpList_load_marks rfl _ rfl HM.out rfl ?_; refine Hid.out ?_)
        refine Lib.hid ?_
        go_wp2_with fail
        refine (marksList_l e1.out).mono ?_
        rintro e w5 ⟨⟨A5, c5, rfl, hri, hnil, hcap⟩, hb5⟩
        have HX := Lib.hid (ipost_mk hri hnil hcap (HBM.out.trans (hb5.mono HBM.out.size)))
        clear hri hnil hcap hb5
        go_wp2
        go_ret
        exact HX.out

end Go.Proofs.YtchogijdkagiiaaGreatDoor

namespace Go.Proofs.YtchogijdkagiiaaGreatDoor
open Go.RowKit

end Go.Proofs.YtchogijdkagiiaaGreatDoor
