/- Words for memory: floating-point numbers, and uses, in slices. -/
import Derived.Test.YtaehhafdodoljaaShareMath
import Derived.Test.YtaehhafdodoljaaReadN
import Derived.Laws.Rows
import Derived.WalkLawsBesides
namespace Go.Proofs.Ytaehhafdodoljaa
open Go.RowKit

/-- a floating-point word -/
def W64 (x : Nat) : Prop := x < 18446744073709551616
theorem w64_of {x : Nat} (h : (Lit.float .f64 x).wf = true) : W64 x := by
  have : x < 2 ^ 64 := by simpa [Lit.wf] using h
  exact this
theorem w64_clean (x : Nat) : W64 (cleanF x) := Nat.lt_trans (cleanF_lt x) (by decide)
theorem w64_le {x : Nat} (h : x ≤ 9218868437227405312) : W64 x := Nat.lt_of_le_of_lt h (by decide)
/-- an amount, as an element -/
def EF : Elem Nat := fun _ _ x vs => vs = [.float .f64 x] ∧ W64 x
theorem ef_steady : Steady EF := ⟨fun h _ _ => h⟩
structure UsOk (u : Us) : Prop where
  who : -9223372036854775808 ≤ u.who ∧ u.who ≤ 9223372036854775807
  had : W64 u.had
  weight : W64 u.weight
/-- a use, as an element: three cells -/
def EU : Elem Us := fun _ _ u vs => vs = [.int .i64 u.who, .float .f64 u.had, .float .f64 u.weight] ∧ UsOk u
theorem eu_steady : Steady EU := ⟨fun h _ _ => h⟩
/-- a list of amounts that is asked about -/
structure FAsk (w : World) (A : Option Addr) (n c : Nat) (l : List Nat) : Prop where
  reads : RN EF 1 w (Lt w.heap.size) A n l
  nil : A = none → c = 0
  cap : n ≤ c
  few : n ≤ maxLen
structure UAsk (w : World) (A : Option Addr) (n c : Nat) (l : List Us) : Prop where
  reads : RN EU 3 w (Lt w.heap.size) A n l
  nil : A = none → c = 0
  cap : n ≤ c
  few : n ≤ maxLen
/-- a use's cells -/
def usO (u : Us) : Obj := .cells #[.int .i64 u.who, .float .f64 u.had, .float .f64 u.weight] 25
structure BoxU (wr : World) (g : Nat) (u : Us) : Prop where
  lt : g < wr.heap.size
  at' : wr.heap[g]? = some (usO u)
section
variable {w w' wr : World} {A : Option Addr} {n c g : Nat} {l : List Nat} {us : List Us} {u : Us}
theorem FAsk.next (h : FAsk w A n c l) (hb : Below w.heap.size w w') : FAsk w' A n c l := ⟨RN.next ef_steady h.reads hb, h.nil, h.cap, h.few⟩
theorem FAsk.len (h : FAsk w A n c l) : l.length = n := h.reads.1
theorem FAsk.one (h : FAsk w A n c l) {k : Nat} (hk : k < n) : ∃ b off, A = some ⟨b, off, none⟩ ∧ b < w.heap.size ∧ w.cell? ⟨b, off + k, none⟩ = some (.float .f64 (l.getD k 0)) ∧ W64 (l.getD k 0) := by
  have hl : k < l.length := by rw [h.len]; exact hk
  obtain ⟨b, off, vs, e, hb, _, hc, hv, h5⟩ := RN.at h.reads (List.getElem?_eq_getElem hl)
  subst hv
  have hg : l.getD k 0 = l[k] := by rw [List.getD, List.getElem?_eq_getElem hl]; rfl
  rw [hg]
  have := hc 0 _ rfl
  rw [Nat.mul_one, Nat.add_zero] at this
  exact ⟨b, off, e, hb, this, h5⟩
theorem UAsk.next (h : UAsk w A n c us) (hb : Below w.heap.size w w') : UAsk w' A n c us := ⟨RN.next eu_steady h.reads hb, h.nil, h.cap, h.few⟩
theorem UAsk.len (h : UAsk w A n c us) : us.length = n := h.reads.1
theorem UAsk.one (h : UAsk w A n c us) {k : Nat} (hk : k < n) : ∃ b off, A = some ⟨b, off, none⟩ ∧ b < w.heap.size ∧ (w.cell? ⟨b, off + k * 3, none⟩ = some (.int .i64 (us.getD k us0).who) ∧ w.cell? ⟨b, off + k * 3 + 1, none⟩ = some (.float .f64 (us.getD k us0).had) ∧ w.cell? ⟨b, off + k * 3 + 2, none⟩ = some (.float .f64 (us.getD k us0).weight)) ∧ UsOk (us.getD k us0) := by
  have hl : k < us.length := by rw [h.len]; exact hk
  obtain ⟨b, off, vs, e, hb, _, hc, hv, h5⟩ := RN.at h.reads (List.getElem?_eq_getElem hl)
  subst hv
  have hg : us.getD k us0 = us[k] := by rw [List.getD, List.getElem?_eq_getElem hl]; rfl
  rw [hg]
  exact ⟨b, off, e, hb, ⟨hc 0 _ rfl, hc 1 _ rfl, hc 2 _ rfl⟩, h5⟩
/-- a beginning of a list -/
theorem RN.take' {α : Type} {E : Elem α} {C : Nat} {ok : Nat → Prop} {m k : Nat} {B : Option Addr} {xs : List α} (h : RN E C w ok B m xs) (hk : k ≤ m) : RN E C w ok B k (xs.take k) := by
  refine ⟨by rw [List.length_take, h.1]; omega, fun h0 => ?_⟩
  obtain ⟨b, off, e, hb, hc⟩ := h.2 (by omega)
  refine ⟨b, off, e, hb, fun j x hx => hc j x ?_⟩
  rw [List.getElem?_take] at hx
  split at hx
  · exact hx
  · cases hx
theorem FAsk.take (h : FAsk w A n c l) {k : Nat} (hk : k ≤ n) : FAsk w A k c (l.take k) := ⟨h.reads.take' hk, h.nil, Nat.le_trans hk h.cap, Nat.le_trans hk h.few⟩
theorem UAsk.take (h : UAsk w A n c us) {k : Nat} (hk : k ≤ n) : UAsk w A k c (us.take k) := ⟨h.reads.take' hk, h.nil, Nat.le_trans hk h.cap, Nat.le_trans hk h.few⟩
theorem BoxU.next (h : BoxU wr g u) (hb : Below wr.heap.size wr w') : BoxU w' g u := ⟨Nat.lt_of_lt_of_le h.lt hb.size, (hb.block _ h.lt).trans h.at'⟩
theorem boxU_new (w : World) (u : Us) : BoxU (w.alloc (usO u)) w.heap.size u := ⟨by simp, heap_alloc_new w _⟩
theorem BoxU.c0 (h : BoxU wr g u) : wr.cell? ⟨g, 0, none⟩ = some (.int .i64 u.who) := (cell_of_row wr g 0 _ _ (0, 0) h.at').trans rfl
theorem BoxU.c1 (h : BoxU wr g u) : wr.cell? ⟨g, 1, none⟩ = some (.float .f64 u.had) := (cell_of_row wr g 1 _ _ (0, 0) h.at').trans rfl
theorem BoxU.c2 (h : BoxU wr g u) : wr.cell? ⟨g, 2, none⟩ = some (.float .f64 u.weight) := (cell_of_row wr g 2 _ _ (0, 0) h.at').trans rfl
theorem BoxU.frozen (h : BoxU wr g u) (j : Nat) : wr.frozen? ⟨g, j, none⟩ = false := frozen_of_row wr g j _ _ h.at'
end
@[go_sem] theorem run_store_float {P : Program} {w : World} {a : Addr} {m : Mode} (k : FloatKind) (b : Nat) : (store a (.float k b) m).run P w = stored P w a (.float k b) m := run_store P w a _ m rfl
-- comparisons of words, as the walk asks them
theorem fgt {x b : Nat} (hx : W64 x) (hb : b ≤ 9218868437227405312) : (FloatKind.f64.format.order x b == some Ordering.gt) = decide (b < x ∧ x ≤ 9218868437227405312) := order_gt hx hb
theorem flt {a b : Nat} (ha : a ≤ 9218868437227405312) (hb : b ≤ 9218868437227405312) : (FloatKind.f64.format.order a b == some Ordering.lt) = decide (a < b) := by
  show (Ieee.double.order a b == some Ordering.lt) = _
  rw [orderF ha hb, Bool.eq_iff_iff, decide_eq_true_eq, beq_iff_eq, Option.some.injEq, Nat.compare_eq_lt]
theorem fgr {a b : Nat} (ha : a ≤ 9218868437227405312) (hb : b ≤ 9218868437227405312) : (FloatKind.f64.format.order a b == some Ordering.gt) = decide (b < a) := by
  show (Ieee.double.order a b == some Ordering.gt) = _
  rw [orderF ha hb, Bool.eq_iff_iff, decide_eq_true_eq, beq_iff_eq, Option.some.injEq, Nat.compare_eq_gt]
theorem feq {a b : Nat} (ha : a ≤ 9218868437227405312) (hb : b ≤ 9218868437227405312) : (FloatKind.f64.format.order a b == some Ordering.eq) = decide (a = b) := by
  show (Ieee.double.order a b == some Ordering.eq) = _
  rw [orderF ha hb, Bool.eq_iff_iff, decide_eq_true_eq, beq_iff_eq, Option.some.injEq, Nat.compare_eq_eq]
theorem fne {a b : Nat} (ha : a ≤ 9218868437227405312) (hb : b ≤ 9218868437227405312) : (FloatKind.f64.format.order a b != some Ordering.eq) = decide (a ≠ b) := by
  unfold bne
  rw [feq ha hb]
  simp
section
variable {w : World} {t : TypeId} {a b : Nat}
theorem run_fadd (ha : a < 9218868437227405312) (hb : b < 9218868437227405312) : (binOp .add t (.float .f64 a) (.float .f64 b)).run Try.prog w = .ok (.float .f64 (nearF (valF a + valF b) 0)) w := run_float_arith w .add t .f64 a b _ (addF ha hb)
theorem run_fhalf (ha : a < 9218868437227405312) : (binOp .mul t (.float .f64 a) (.float .f64 4602678819172646912)).run Try.prog w = .ok (.float .f64 (halfF a)) w := run_float_arith w .mul t .f64 a _ _ (mul_halfF ha)
theorem run_fdiv (ha : a < 9218868437227405312) (hb : b < 9218868437227405312) (h : a ≠ 0) : (binOp .quo t (.float .f64 a) (.float .f64 b)).run Try.prog w = .ok (.float .f64 (shareF a b)) w := run_float_arith w .quo t .f64 a b _ (shareF_div ha hb h)
end

end Go.Proofs.Ytaehhafdodoljaa
