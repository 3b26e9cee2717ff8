/- Words for memory: a slice of bytes that reads as a list; bytes as a call's result; bytes appended to an owned row. Words for memory: a block that holds a spec. Words for memory: a slice of int that reads as a list; no condition. Words for memory: a slice of int as a call's result; numbers that are asked. Words for memory: several elements appended at once to an owned row. General: nothing of the program stands here. Words for memory: a slice of slices of bytes that reads as a list of lists; bytes as a call's result, in memory of its own. -/
import Derived.Laws.AppendOwnNone
import Derived.Lib.ConvBytes
import Derived.Laws.IdiomStrings
import Derived.Test.YtlpogkcfjbabaaaMg02
import Derived.Laws.Rows
import Derived.Test.YtlpogkcfjbabaaaMg01
namespace Go.Proofs.Ytlpogkcfjbabaaa
open Go.RowKit

/-- a byte as an element -/
def EB : Elem UInt8 := fun _ _ x vs => vs = [.int .u8 (x.toNat : Int)]
theorem eb_steady : Steady EB := ⟨fun h _ _ => h⟩
def RB (w : World) (B : Nat) (A : Option Addr) (n : Nat) (bs : Bs) : Prop := RN EB 1 w (Lt B) A n bs
theorem byte_info : (Try.prog.info? 5).map (fun i => (i.zero, i.size, i.bytes)) = some (some (.int .u8 0), 1, 1) := by kernel_rfl
section
variable {w w' : World} {B n c k : Nat} {A : Option Addr} {bs : Bs}
theorem RB.len (h : RB w B A n bs) : bs.length = n := h.1
theorem RB.nil : RB w B A 0 [] := RN.nil
theorem RB.next (h : RB w w.heap.size A n bs) (hb : Below w.heap.size w w') : RB w' w'.heap.size A n bs := RN.next eb_steady h hb
theorem RB.below (h : RB w B A n bs) (hb : Below B w w') : RB w' B A n bs := RN.below eb_steady h hb
theorem RB.drewN (h : RB w B A n bs) (q : Nat) : RB (w.drewN q) B A n bs := RN.drewN h eb_steady q
theorem RB.one (h : RB w B A n bs) (hk : k < n) : ∃ b off, A = some ⟨b, off, none⟩ ∧ b < B ∧ w.cell? ⟨b, off + k, none⟩ = some (.int .u8 (((bs.getD k 0).toNat : Nat) : Int)) := by
  have hl : k < bs.length := by rw [h.1]; exact hk
  obtain ⟨b, off, vs, e, hb, _, hc, hv⟩ := RN.at h (List.getElem?_eq_getElem hl)
  have hv' : vs = [.int .u8 ((bs[k].toNat : Nat) : Int)] := hv
  subst hv'
  have := hc 0 _ rfl
  rw [show off + (k * 1 + 0) = off + k by omega] at this
  have hg : bs.getD k 0 = bs[k] := by rw [List.getD, List.getElem?_eq_getElem hl]; rfl
  exact ⟨b, off, e, hb, by rw [hg]; exact this⟩
/-- what is left of it -/
theorem RB.cut (h : RB w B A n bs) (hk : k ≤ n) (hc : n ≤ c) : RB w B (if c = k then A else A.map (·.add k)) (n - k) (bs.drop k) := by
  refine ⟨by rw [List.length_drop, h.1], fun hn => ?_⟩
  obtain ⟨b, off, e, hb, hcell⟩ := h.2 (by omega)
  subst e
  rw [if_neg (by omega)]
  refine ⟨b, off + k, by show some (Addr.add _ _) = _; rw [add_none], hb, fun j x hx => ?_⟩
  rw [List.getElem?_drop] at hx
  obtain ⟨vs, h1, h2, h3⟩ := hcell (k + j) x hx
  refine ⟨vs, h1, fun i v hv => ?_, h3⟩
  have := h2 i v hv
  rwa [show off + ((k + j) * 1 + i) = off + k + (j * 1 + i) by omega] at this
theorem RB.front (h : RB w B A n bs) (hk : k ≤ n) : RB w B A k (bs.take k) := by
  refine ⟨by rw [List.length_take, h.1]; omega, fun hn => ?_⟩
  obtain ⟨b, off, e, hb, hcell⟩ := h.2 (by omega)
  refine ⟨b, off, e, hb, fun j x hx => ?_⟩
  have hj : j < k := by
    have := (List.getElem?_eq_some_iff.1 hx).1
    rw [List.length_take] at this
    omega
  rw [List.getElem?_take_of_lt hj] at hx
  exact hcell j x hx
end
def bcells (bs : Bs) : List Value := bs.map fun c => Value.int .u8 (c.toNat : Int)
/-- an owned row of bytes: its cells, told as a list -/
theorem onb_own {t : TypeId} {w wr : World} {v : Value} {bs : Bs} (h : ON EB 1 t w v bs wr) : wr.ownsRow w.heap.size t 1 v bs.length (bcells bs) ∧ Below w.heap.size w wr := by
  obtain ⟨fl, h1, h2, h3⟩ := h
  have e : fl = bcells bs := by
    apply List.ext_getElem?
    intro j
    by_cases hj : j < bs.length
    · have hx : bs[j]? = some bs[j] := List.getElem?_eq_getElem hj
      have h4 : (fl.drop (j * 1)).take 1 = [.int .u8 ((bs[j].toNat : Nat) : Int)] := h3 j _ hx
      have h5 : ((fl.drop (j * 1)).take 1)[0]? = some (.int .u8 ((bs[j].toNat : Nat) : Int)) := by rw [h4]; rfl
      rw [List.getElem?_take_of_lt (by omega), List.getElem?_drop] at h5
      unfold bcells
      rw [List.getElem?_map, hx]
      simpa using h5
    · have h6 := h1.1
      rw [List.getElem?_eq_none (by omega), List.getElem?_eq_none (by unfold bcells; simp; omega)]
  subst e
  exact ⟨h1, h2⟩
theorem own_onb {t : TypeId} {w wr : World} {v : Value} {bs : Bs} (h : wr.ownsRow w.heap.size t 1 v bs.length (bcells bs)) (hb : Below w.heap.size w wr) : ON EB 1 t w v bs wr :=
  ⟨_, h, hb, fun j x hx => by
    show _ = _
    have hj := (List.getElem?_eq_some_iff.1 hx).1
    unfold bcells
    rw [← List.map_drop, ← List.map_take]
    have : (bs.drop (j * 1)).take 1 = [x] := by
      rw [Nat.mul_one, List.drop_eq_getElem_cons hj]
      have hxj := (List.getElem?_eq_some_iff.1 hx).2
      rw [hxj]; rfl
    rw [this]; rfl⟩
/-- a literal '[]byte{..}' -/
theorem onb_lit {t : TypeId} (w : World) (bs : Bs) (hm : bs.length ≤ 1000) : ON EB 1 t w (.slice (some ⟨w.heap.size, 0, none⟩) bs.length bs.length) bs (w.alloc (.cells (bcells bs).toArray t)) := by
  have hs : (bcells bs).length = bs.length := by unfold bcells; simp
  exact own_onb ⟨by rw [hs]; omega, .inr ⟨w.heap.size, bs.length, (bcells bs).toArray, rfl, Nat.le_refl _, heap_alloc_new w _, Nat.le_refl _, by unfold maxLen; omega, by simp [hs], by simp [List.take_of_length_le (Nat.le_of_eq hs)]⟩⟩ ((Below.refl _ _).alloc (Nat.le_refl _) _)
theorem onb_one {t : TypeId} (w : World) (k : Nat) (hk : k < 256) : ON EB 1 t w (.slice (some ⟨w.heap.size, 0, none⟩) 1 1) [UInt8.ofNat k] (w.alloc (.cells #[.int .u8 (k : Int)] t)) := by
  have := onb_lit (t := t) w [UInt8.ofNat k] (by simp)
  unfold bcells at this
  simp only [List.map_cons, List.map_nil, ofNat_toNat8 hk] at this
  exact this
/-- append(out, xs...) of bytes, xs nil or not -/
theorem wpList_append_RB {P : Program} {ops : Array Oper} {rest : List Oper} {o : Oper} {a : Act} {Q : Exit → Act → World → Prop} {w wr : World} {v : Value} {xs ys : Bs} (hgd : o.guard = none) (s x : Operand) (ty t : TypeId)
    (ho : o.op = .call { callee := .builtin .append, args := #[s, x], argTypes := #[ty, ty] })
    (h : ON EB 1 t w v xs wr) (i : TypeInfo) (ht : P.underlying ty = some (.slice t)) (hi : P.info? t = some i) (hz : i.zero = some (.int .u8 0)) (hsize : i.size = 1) (hby : i.bytes = 1)
    (hs : a.eval s = v) (B : Nat) (A : Option Addr) (m c : Nat) (hx : a.eval x = .slice A m c) (hr : RB wr B A m ys) (hnil : A = none → c = 0) (hl : xs.length + m ≤ 1000000)
    (hk : ∀ v' w', ON EB 1 t w v' (xs ++ ys) w' → wpList P ops Q rest (a.put o.dst v') w') : wpList P ops Q (o :: rest) a wr := by
  obtain ⟨hown, hB⟩ := onb_own h
  cases A with
  | none =>
    have hc := hnil rfl
    subst hc
    have hm : m = 0 := by
      rcases Nat.eq_zero_or_pos m with h0 | h0
      · exact h0
      · obtain ⟨b, off, e', _⟩ := hr.2 h0; cases e'
    subst hm
    have hys : ys = [] := List.eq_nil_of_length_eq_zero hr.1
    subst hys
    exact wpList_append_own_none hgd s x ty ho w.heap.size t i 1 ht hi v xs.length (bcells xs) hs hown hx (hk v wr (by simpa using h))
  | some ad =>
    have hyl : (bcells ys).length = m := by unfold bcells; simp [hr.1]
    refine wpList_append_own wr hgd s x ty ho w.heap.size t i (.int .u8 0) 1 1 ht hi hz hsize hby rfl (by omega) v xs.length (bcells xs) hs hown ad m c (bcells ys) hx (by rw [hyl]; omega) ?_ (by intro u hu; unfold bcells at hu; obtain ⟨k, _, rfl⟩ := List.mem_map.1 hu; rfl) (by unfold maxLen; omega) (by omega) hB.size fun v' w' h1 h2 _ => ?_
    · intro j u hj
      have hjl : j < ys.length := by
        have := (List.getElem?_eq_some_iff.1 hj).1
        rw [hyl] at this
        rw [hr.1]; exact this
      obtain ⟨b, off, e', _, hc⟩ := hr.one (k := j) (by rw [← hr.1]; exact hjl)
      injection e' with e'
      subst e'
      rw [add_none, hc]
      unfold bcells at hj
      rw [List.getElem?_map, List.getElem?_eq_getElem hjl] at hj
      have hg : ys.getD j 0 = ys[j] := by rw [List.getD, List.getElem?_eq_getElem hjl]; rfl
      rw [hg]
      simpa using hj
    · refine hk v' w' (own_onb ?_ (hB.grown h2 hB.size fun b hb => (hown.lt b hb).1))
      rw [List.length_append, hr.1]
      unfold bcells at h1 ⊢
      rw [List.map_append]
      exact h1
/-- 'string(b)' -/
theorem string_of {w : World} {B n c : Nat} {A : Option Addr} {bs : Bs} (h : RB w B A n bs) : (convert 28 9 (.slice A n c)).run Try.prog w = .ok (.string ⟨bs.toArray⟩) w := by
  have hl := h.len
  cases A with
  | none =>
    have hn : n = 0 := by
      rcases Nat.eq_zero_or_pos n with h0 | h0
      · exact h0
      · obtain ⟨b, off, e, _⟩ := h.2 h0; cases e
    subst hn
    rw [List.eq_nil_of_length_eq_zero hl, run_convert_bytes_string w 28 9 5 none 0 c Try.underlying28 Try.underlying5 Try.underlying9]
    rfl
  | some ad =>
    subst hl
    refine run_convert_bytes_back w 28 9 5 ad c bs Try.underlying28 Try.underlying5 Try.underlying9 fun j hj => ?_
    obtain ⟨b, off, e, _, hc⟩ := h.one hj
    injection e with e
    subst e
    rw [add_none, hc]
    have hg : bs.getD j 0 = bs[j] := by rw [List.getD, List.getElem?_eq_getElem hj]; rfl
    rw [hg]
/-- '[]byte(s)' -/
theorem wpList_bytes_of {P : Program} {ops : Array Oper} {rest : List Oper} {o : Oper} {a : Act} {Q : Exit → Act → World → Prop} {wr : World} (hgd : o.guard = none) (src dst e : TypeId) (x : Operand) (ho : o.op = .convert src dst x)
    (hs : P.underlying src = some .string) (hd : P.underlying dst = some (.slice e)) (he : P.underlying e = some (.int .u8)) (s : ByteArray) (hx : a.eval x = .string s)
    (hk : ∀ c w', Below wr.heap.size wr w' → RB w' w'.heap.size (some ⟨wr.heap.size, 0, none⟩) s.size s.data.toList → wpList P ops Q rest (a.put o.dst (.slice (some ⟨wr.heap.size, 0, none⟩) s.size c)) w') : wpList P ops Q (o :: rest) a wr := by
  refine wpList_plain hgd fun K hK' => ?_
  have hrun := Lib.run_convert_string_bytes (P := P) wr src dst e s hs hd he
  unfold Oper.wp
  simp [execOp, ho, hx, hrun, Result.andThen]
  have hl : s.data.toList.length = s.size := by rw [Array.length_toList]; rfl
  refine hK' _ _ (hk _ _ ⟨rfl, rfl, rfl, by rw [Lib.bytesWorld_size]; omega, fun b hb => Lib.bytesWorld_at_old wr e s b hb⟩ ⟨hl, fun hn => ⟨wr.heap.size, 0, rfl, by show wr.heap.size < _; rw [Lib.bytesWorld_size]; omega, fun j y hj => ?_⟩⟩)
  have hjl := (List.getElem?_eq_some_iff.1 hj).1
  refine ⟨_, rfl, fun i v hv => ?_, rfl⟩
  have hi : i = 0 := by
    have := (List.getElem?_eq_some_iff.1 hv).1
    simpa using this
  subst hi
  rw [show 0 + (j * 1 + 0) = j by omega, Lib.bytesWorld_cell wr e s j (by omega)]
  have hg : s.data.toList.getD j 0 = y := by rw [List.getD, hj]; rfl
  rw [hg]
  exact hv
/-- bytes and an error's number, read from whatever memory; all that was there is kept -/
def BPost (l : Bs) (er : Int) (w : World) (e : Ending) (w' : World) : Prop :=
  (∃ A c, e = .returned (.tuple #[.slice A l.length c, .int .i64 er]) ∧ RB w' w'.heap.size A l.length l ∧ (A = none → c = 0) ∧ l.length ≤ c) ∧ Below w.heap.size w w'
theorem bpost_own {l : Bs} {er : Int} {w w' : World} {v : Value} {t : TypeId} (h : ON EB 1 t w v l w') : BPost l er w (.returned (.tuple #[v, .int .i64 er])) w' := by
  obtain ⟨A, c, rfl, h1, h2⟩ := h.form
  exact ⟨⟨A, c, rfl, h.reads eb_steady (by omega) rfl, h1, h2⟩, h.below⟩

theorem bpost_nil {er : Int} {w w' : World} (hb : Below w.heap.size w w') : BPost [] er w (.returned (.tuple #[.slice none 0 0, .int .i64 er])) w' := ⟨⟨none, 0, rfl, RB.nil, fun _ => rfl, Nat.le_refl _⟩, hb⟩
theorem bpost_on {l l' : Bs} {er : Int} {w W w' : World} {v : Value} {t : TypeId} (h : ON EB 1 t W v l w') (e : l = l') (hb : Below w.heap.size w W) : BPost l' er w (.returned (.tuple #[v, .int .i64 er])) w' := by
  subst e
  have := bpost_own (er := er) h
  exact ⟨this.1, hb.trans (this.2.mono hb.size)⟩
/-- bytes that are asked -/
structure BAsk (w : World) (B : Nat) (A : Option Addr) (n c : Nat) (bs : Bs) : Prop where
  reads : RB w B A n bs
  nil : A = none → c = 0
  cap : n ≤ c
  few : n ≤ maxLen
theorem BAsk.below {w w' : World} {B : Nat} {A : Option Addr} {n c : Nat} {bs : Bs} (h : BAsk w B A n c bs) (hb : Below B w w') : BAsk w' B A n c bs := ⟨h.reads.below hb, h.nil, h.cap, h.few⟩
theorem BAsk.cut {w : World} {B : Nat} {A : Option Addr} {n c k : Nat} {bs : Bs} (h : BAsk w B A n c bs) (hk : k ≤ n) : BAsk w B (if c = k then A else A.map (·.add k)) (n - k) (c - k) (bs.drop k) :=
  ⟨h.reads.cut hk h.cap, (fun e => by
    split at e
    · omega
    · cases A with
      | none => have := h.nil rfl; omega
      | some a => cases e), by have := h.cap; omega, by have := h.few; omega⟩
theorem BAsk.cut1 {w : World} {B b off n c k : Nat} {bs : Bs} (h : BAsk w B (some ⟨b, off, none⟩) n c bs) (hk : k ≤ n) : BAsk w B (if c = k then some ⟨b, off, none⟩ else some ⟨b, off + k, none⟩) (n - k) (c - k) (bs.drop k) := by
  have := h.cut hk
  rwa [show (some (⟨b, off, none⟩ : Addr)).map (·.add k) = some ⟨b, off + k, none⟩ from by show some (Addr.add _ _) = _; rw [add_none]] at this
theorem BAsk.cutN {w : World} {B b off n c k : Nat} {bs : Bs} (h : BAsk w B (some ⟨b, off, none⟩) n c bs) (hk : k ≤ n) :
    ∃ A1, (if c = k then some (⟨b, off, none⟩ : Addr) else some ⟨b, off + k, none⟩) = A1 ∧ BAsk w B A1 (n - k) (c - k) (bs.drop k) := ⟨_, rfl, h.cut1 hk⟩
theorem BAsk.back {w w' : World} {B : Nat} {A : Option Addr} {n c : Nat} {bs : Bs} (h : BAsk w' B A n c bs) (hb : Below B w w') : BAsk w B A n c bs :=
  ⟨RN.keep eb_steady h.reads (fun b hb' => (hb.block b hb').symm) (fun _ h => h), h.nil, h.cap, h.few⟩

end Go.Proofs.Ytlpogkcfjbabaaa

namespace Go.Proofs.Ytlpogkcfjbabaaa
open Go.RowKit

/-- a spec's value -/
def spV (s : Sp) : Value := .agg #[.int .i64 s.nodes, .int .i64 s.cores, .int .i64 s.gpus, .string s.tag, .bool s.whole, .int .i64 s.long, .int .i64 s.prio]
/-- a block with a spec's cells -/
def spO (s : Sp) : Obj := .cells #[.int .i64 s.nodes, .int .i64 s.cores, .int .i64 s.gpus, .string s.tag, .bool s.whole, .int .i64 s.long, .int .i64 s.prio] 23
/-- a spec as it may be handed in -/
structure SAsk (s : Sp) : Prop where
  nodes : I64 s.nodes
  cores : I64 s.cores
  gpus : I64 s.gpus
  tag : s.tag.size ≤ maxLen
  long : I64 s.long
  prio : I64 s.prio
/-- block g holds the spec s -/
structure BoxS (wr : World) (g : Nat) (s : Sp) : Prop where
  lt : g < wr.heap.size
  at' : wr.heap[g]? = some (spO s)
section
variable {w wr w' : World} {g : Nat} {s : Sp}
theorem BoxS.next (h : BoxS wr g s) (hb : Below wr.heap.size wr w') : BoxS w' g s := ⟨Nat.lt_of_lt_of_le h.lt hb.size, (hb.block _ h.lt).trans h.at'⟩
theorem BoxS.alloc (h : BoxS wr g s) (o : Obj) : BoxS (wr.alloc o) g s := h.next ((Below.refl _ _).alloc (Nat.le_refl _) _)
theorem BoxS.drewN (h : BoxS wr g s) (q : Nat) : BoxS (wr.drewN q) g s := h.next (bel_drew wr q)
theorem box_new (w : World) (s : Sp) : BoxS (w.alloc (spO s)) w.heap.size s := ⟨by simp, heap_alloc_new w _⟩
theorem BoxS.c0 (h : BoxS wr g s) : wr.cell? ⟨g, 0, none⟩ = some (.int .i64 s.nodes) := (cell_of_row wr g 0 _ _ (0, 0) h.at').trans rfl
theorem BoxS.c1 (h : BoxS wr g s) : wr.cell? ⟨g, 1, none⟩ = some (.int .i64 s.cores) := (cell_of_row wr g 1 _ _ (0, 0) h.at').trans rfl
theorem BoxS.c2 (h : BoxS wr g s) : wr.cell? ⟨g, 2, none⟩ = some (.int .i64 s.gpus) := (cell_of_row wr g 2 _ _ (0, 0) h.at').trans rfl
theorem BoxS.c3 (h : BoxS wr g s) : wr.cell? ⟨g, 3, none⟩ = some (.string s.tag) := (cell_of_row wr g 3 _ _ (0, 0) h.at').trans rfl
theorem BoxS.c4 (h : BoxS wr g s) : wr.cell? ⟨g, 4, none⟩ = some (.bool s.whole) := (cell_of_row wr g 4 _ _ (0, 0) h.at').trans rfl
theorem BoxS.c5 (h : BoxS wr g s) : wr.cell? ⟨g, 5, none⟩ = some (.int .i64 s.long) := (cell_of_row wr g 5 _ _ (0, 0) h.at').trans rfl
theorem BoxS.c6 (h : BoxS wr g s) : wr.cell? ⟨g, 6, none⟩ = some (.int .i64 s.prio) := (cell_of_row wr g 6 _ _ (0, 0) h.at').trans rfl
theorem BoxS.frozen (h : BoxS wr g s) (j : Nat) : wr.frozen? ⟨g, j, none⟩ = false := frozen_of_row wr g j _ _ h.at'
end
theorem spec_size : (Try.prog.info? 23).map (·.size) = some 7 := by kernel_rfl
/-- a whole spec is loaded -/
theorem wpList_load_spec {ops : Array Oper} {rest : List Oper} {o : Oper} {a : Act} {Q : Exit → Act → World → Prop} {w : World} {g : Nat} {s : Sp} (hgd : o.guard = none) (x : Operand) (ho : o.op = .load 23 x)
    (hm : BoxS w g s) (hx : a.eval x = .pointer (some ⟨g, 0, none⟩))
    (h : wpList Try.prog ops Q rest (a.put o.dst (spV s)) w) : wpList Try.prog ops Q (o :: rest) a w :=
  wpList_load_row hgd _ x ho g hx _ _ (0, 0) _ hm.at' Try.underlying23 rfl spec_size h

end Go.Proofs.Ytlpogkcfjbabaaa

namespace Go.Proofs.Ytlpogkcfjbabaaa
open Go.RowKit

/-- the slice value '.slice A n c' holds the numbers xs, below block B -/
def RI (w : World) (B : Nat) (A : Option Addr) (n : Nat) (xs : List Int) : Prop :=
  xs.length = n ∧ (0 < n → ∃ b off, A = some ⟨b, off, none⟩ ∧ b < B ∧ ∀ j, j < n → w.cell? ⟨b, off + j, none⟩ = some (.int .i64 (xs.getD j 0)))

section
variable {w w' : World} {B B' n : Nat} {A : Option Addr} {xs : List Int}
theorem RI.nil : RI w B A 0 [] := ⟨rfl, fun h => absurd h (by omega)⟩
theorem RI.keep (h : RI w B A n xs) (hk : ∀ p : Addr, p.block < B → w'.cell? p = w.cell? p) : RI w' B A n xs :=
  ⟨h.1, fun hn => by
    obtain ⟨b, off, e, hb, hc⟩ := h.2 hn
    exact ⟨b, off, e, hb, fun j hj => (hk _ hb).trans (hc j hj)⟩⟩
theorem RI.more (h : RI w B A n xs) (hB : B ≤ B') : RI w B' A n xs :=
  ⟨h.1, fun hn => by
    obtain ⟨b, off, e, hb, hc⟩ := h.2 hn
    exact ⟨b, off, e, by omega, hc⟩⟩
theorem RI.below (h : RI w B A n xs) (hb : Below B w w') : RI w' B A n xs := h.keep fun _ hp => hb.cell hp
theorem RI.drewN (h : RI w B A n xs) (k : Nat) : RI (w.drewN k) B A n xs := h
theorem RI.of_own {base : Nat} {e : TypeId} {c : Nat} (h : w.ownsRow base e 1 (.slice A n c) n (xs.map (Value.int .i64))) : RI w w.heap.size A n xs := by
  have hl : xs.length = n := by have := h.1; simpa using this
  refine ⟨hl, fun hn => ?_⟩
  rcases h.2 with ⟨-, h0⟩ | ⟨g, cap, cur, hv, _, hh, _, _, _, _⟩
  · omega
  · injection hv with hv
    subst hv
    refine ⟨g, 0, rfl, (Array.getElem?_eq_some_iff.1 hh).1, fun j hj => ?_⟩
    have := h.cells (g := g) rfl j (.int .i64 (xs.getD j 0)) (by simp [List.getD, show j < xs.length by omega])
    have ha : (⟨g, 0, none⟩ : Addr).add j = ⟨g, j, none⟩ := by unfold Addr.add; split <;> simp_all
    rw [ha] at this
    simpa using this
end


/-- 'nothing that was there has changed', kept from the walk -/
def Bel (w w' : World) : Prop := Below w.heap.size w w'

theorem RI.next {w w' : World} {A : Option Addr} {n : Nat} {xs : List Int} (h : RI w w.heap.size A n xs) (hb : Below w.heap.size w w') : RI w' w'.heap.size A n xs := (h.below hb).more hb.size
theorem RI_lit3 (W : World) (a b c : Int) (t : TypeId) : RI (W.alloc (.cells #[.int .i64 a, .int .i64 b, .int .i64 c] t)) (W.heap.size + 1) (some ⟨W.heap.size, 0, none⟩) 3 [a, b, c] :=
  ⟨rfl, fun _ => ⟨W.heap.size, 0, rfl, by omega, fun j hj => by
    rw [World.cell?_alloc_at _ _ _ _ rfl]
    match j, hj with
    | 0, _ => rfl
    | 1, _ => rfl
    | 2, _ => rfl⟩⟩
theorem RI_lit2 (W : World) (a b : Int) (t : TypeId) : RI (W.alloc (.cells #[.int .i64 a, .int .i64 b] t)) (W.heap.size + 1) (some ⟨W.heap.size, 0, none⟩) 2 [a, b] :=
  ⟨rfl, fun _ => ⟨W.heap.size, 0, rfl, by omega, fun j hj => by
    rw [World.cell?_alloc_at _ _ _ _ rfl]
    match j, hj with
    | 0, _ => rfl
    | 1, _ => rfl⟩⟩
theorem RI_lit1 (W : World) (a : Int) (t : TypeId) : RI (W.alloc (.cells #[.int .i64 a] t)) (W.heap.size + 1) (some ⟨W.heap.size, 0, none⟩) 1 [a] :=
  ⟨rfl, fun _ => ⟨W.heap.size, 0, rfl, by omega, fun j hj => by
    rw [World.cell?_alloc_at _ _ _ _ rfl]
    match j, hj with
    | 0, _ => rfl⟩⟩

end Go.Proofs.Ytlpogkcfjbabaaa

namespace Go.Proofs.Ytlpogkcfjbabaaa
open Go.RowKit

theorem RI.one {w : World} {B n k : Nat} {A : Option Addr} {xs : List Int} (h : RI w B A n xs) (hk : k < n) : ∃ b off, A = some ⟨b, off, none⟩ ∧ b < B ∧ w.cell? ⟨b, off + k, none⟩ = some (.int .i64 (xs.getD k 0)) := by
  obtain ⟨b, off, e, hb, hc⟩ := h.2 (by omega)
  exact ⟨b, off, e, hb, hc k hk⟩
/-- numbers, read from whatever memory; all that was there is kept -/
def IPost (l : List Int) (w : World) (e : Ending) (w' : World) : Prop :=
  (∃ A c, e = .returned (.slice A l.length c) ∧ RI w' w'.heap.size A l.length l ∧ (A = none → c = 0) ∧ l.length ≤ c) ∧ Below w.heap.size w w'
theorem ipost_mk {A : Option Addr} {n c : Nat} {xs : List Int} {w w' : World} (hr : RI w' w'.heap.size A n xs) (hnil : A = none → c = 0) (hnc : n ≤ c) (hb : Below w.heap.size w w') : IPost xs w (.returned (.slice A n c)) w' := by
  have := hr.1
  subst this
  exact ⟨⟨A, c, rfl, hr, hnil, hnc⟩, hb⟩
theorem IPost.trans {l : List Int} {w w1 w' : World} {e : Ending} (hb : Below w.heap.size w w1) (h : IPost l w1 e w') : IPost l w e w' := ⟨h.1, hb.trans (h.2.mono hb.size)⟩
theorem ipost_nil {w w' : World} (hb : Below w.heap.size w w') : IPost [] w (.returned (.slice none 0 0)) w' := ipost_mk RI.nil (fun _ => rfl) (Nat.le_refl _) hb
theorem ipost_own {l : List Int} {w w' : World} {B : Nat} {v : Value} (h : w'.ownsRow B 3 1 v l.length (l.map (Value.int .i64))) (hb : Below w.heap.size w w') : IPost l w (.returned v) w' := by
  obtain ⟨A, c, rfl⟩ := own_form h
  exact ipost_mk (RI.of_own h) (own_nil h) (own_cap h) hb
theorem calls_ipost {P : Program} {f : FuncId} {args : Array Value} {w : World} {r l : List Int} (h : Calls P f args w (IPost r w)) (e : r = l) : Calls P f args w (IPost l w) := by
  subst e; exact h
/-- amounts that are asked -/
structure NAsk (w : World) (A : Option Addr) (n : Nat) (xs : List Int) : Prop where
  reads : RI w w.heap.size A n xs
  few : n ≤ 10
  int : ∀ x ∈ xs, I64 x
theorem NAsk.next {w w' : World} {A : Option Addr} {n : Nat} {xs : List Int} (h : NAsk w A n xs) (hb : Below w.heap.size w w') : NAsk w' A n xs := ⟨h.reads.next hb, h.few, h.int⟩

/-- a number as an element -/
def EI : Elem Int := fun _ _ x vs => vs = [.int .i64 x]
theorem ei_steady : Steady EI := ⟨fun h _ _ => h⟩
theorem RN.ri {w : World} {B n : Nat} {A : Option Addr} {xs : List Int} (h : RN EI 1 w (Lt B) A n xs) : RI w B A n xs :=
  ⟨h.1, fun hn => by
    obtain ⟨b, off, e, hb, hc⟩ := h.2 hn
    refine ⟨b, off, e, hb, fun j hj => ?_⟩
    have hl : j < xs.length := by rw [h.1]; exact hj
    obtain ⟨vs, _, h2, h3⟩ := hc j xs[j] (List.getElem?_eq_getElem hl)
    have h3' : vs = [.int .i64 xs[j]] := h3
    subst h3'
    have := h2 0 _ rfl
    rw [show off + (j * 1 + 0) = off + j by omega] at this
    rw [List.getD, List.getElem?_eq_getElem hl]
    exact this⟩
theorem ON.ipost {t : TypeId} {l : List Int} {w w' : World} {v : Value} (h : ON EI 1 t w v l w') : IPost l w (.returned v) w' := by
  obtain ⟨A, c, rfl, h1, h2⟩ := h.form
  exact ipost_mk (h.reads ei_steady (by omega) rfl).ri h1 h2 h.below

/-- append(out, xs...), xs nil or not -/
theorem wpList_append_RI {P : Program} (w : World) {ops : Array Oper} {rest : List Oper} {o : Oper} {a : Act} {Q : Exit → Act → World → Prop} (hgd : o.guard = none) (s x : Operand) (t : TypeId)
    (ho : o.op = .call { callee := .builtin .append, args := #[s, x], argTypes := #[t, t] })
    (base : Nat) (e : TypeId) (i : TypeInfo) (z : Value) (bytes : Nat) (ht : P.underlying t = some (.slice e)) (hi : P.info? e = some i) (hz : i.zero = some z)
    (hsize : i.size = 1) (hby : i.bytes = bytes) (hzs : z.cells.size = 1)
    (v : Value) (n : Nat) (ys : List Value) (hs : a.eval s = v) (hown : w.ownsRow base e 1 v n ys)
    (B : Nat) (A : Option Addr) (m c : Nat) (xs : List Int) (hx : a.eval x = .slice A m c) (hr : RI w B A m xs) (hnil : A = none → c = 0)
    (h63 : n + m ≤ maxLen) (hbytes : (n + m) * bytes ≤ 140737488355328) (hbase : base ≤ w.heap.size)
    (h : ∀ v' w', w'.ownsRow base e 1 v' (n + m) (ys ++ xs.map (Value.int .i64)) → w.grownBy w' v.ownBlock → wpList P ops Q rest (a.put o.dst v') w') : wpList P ops Q (o :: rest) a w := by
  cases A with
  | none =>
    have hc := hnil rfl
    subst hc
    have hm : m = 0 := by
      rcases Nat.eq_zero_or_pos m with h0 | h0
      · exact h0
      · obtain ⟨b, off, e', _⟩ := hr.2 h0; cases e'
    subst hm
    have hxs : xs = [] := List.eq_nil_of_length_eq_zero hr.1
    subst hxs
    exact wpList_append_own_none hgd s x t ho base e i 1 ht hi v n ys hs hown hx (h v w (by simpa using hown) (World.grownBy.refl w _))
  | some ad =>
    refine wpList_append_own w hgd s x t ho base e i z 1 bytes ht hi hz hsize hby hzs (by omega) v n ys hs hown ad m c (xs.map (Value.int .i64)) hx (by simp [hr.1]) ?_ (by intro u hu; obtain ⟨k, _, rfl⟩ := List.mem_map.1 hu; rfl) h63 hbytes hbase fun v' w' h1 h2 _ => h v' w' h1 h2
    intro j u hj
    have hjl : j < xs.length := by
      have := (List.getElem?_eq_some_iff.1 hj).1
      simpa using this
    obtain ⟨b, off, e', _, hc⟩ := hr.2 (by have := hr.1; omega)
    injection e' with e'
    subst e'
    have h1 := hc j (by have := hr.1; omega)
    have ha : (⟨b, off, none⟩ : Addr).add j = ⟨b, off + j, none⟩ := by unfold Addr.add; split <;> simp_all
    rw [ha, h1]
    simp [hjl] at hj
    rw [← hj]
    simp [List.getD, hjl]
/-- numbers and an error's number, read from whatever memory; all that was there is kept -/
def IEPost (l : List Int) (er : Int) (w : World) (e : Ending) (w' : World) : Prop :=
  (∃ A c, e = .returned (.tuple #[.slice A l.length c, .int .i64 er]) ∧ RI w' w'.heap.size A l.length l ∧ (A = none → c = 0) ∧ l.length ≤ c) ∧ Below w.heap.size w w'
theorem iepost_mk {A : Option Addr} {n c : Nat} {xs : List Int} {er : Int} {w w' : World} (hr : RI w' w'.heap.size A n xs) (hnil : A = none → c = 0) (hnc : n ≤ c) (hb : Below w.heap.size w w') : IEPost xs er w (.returned (.tuple #[.slice A n c, .int .i64 er])) w' := by
  have := hr.1
  subst this
  exact ⟨⟨A, c, rfl, hr, hnil, hnc⟩, hb⟩
theorem calls_iepost {P : Program} {f : FuncId} {args : Array Value} {w : World} {r : List Int × Int} {l : List Int} {er : Int} (h : Calls P f args w (IEPost r.1 r.2 w)) (e : r = (l, er)) : Calls P f args w (IEPost l er w) := by
  subst e; exact h

/-- an owned row of numbers: its cells, told as a list -/
theorem on_own {t : TypeId} {w wr : World} {v : Value} {xs : List Int} (h : ON EI 1 t w v xs wr) : wr.ownsRow w.heap.size t 1 v xs.length (xs.map (Value.int .i64)) ∧ Below w.heap.size w wr := by
  obtain ⟨fl, h1, h2, h3⟩ := h
  have e : fl = xs.map (Value.int .i64) := by
    apply List.ext_getElem?
    intro j
    by_cases hj : j < xs.length
    · have hx : xs[j]? = some xs[j] := List.getElem?_eq_getElem hj
      have h4 : (fl.drop (j * 1)).take 1 = [.int .i64 xs[j]] := h3 j _ hx
      have h5 : ((fl.drop (j * 1)).take 1)[0]? = some (.int .i64 xs[j]) := by rw [h4]; rfl
      rw [List.getElem?_take_of_lt (by omega), List.getElem?_drop] at h5
      rw [List.getElem?_map, hx]
      simpa using h5
    · have h6 := h1.1
      rw [List.getElem?_eq_none (by omega), List.getElem?_eq_none (by simp; omega)]
  subst e
  exact ⟨h1, h2⟩
theorem own_on {t : TypeId} {w wr : World} {v : Value} {xs : List Int} (h : wr.ownsRow w.heap.size t 1 v xs.length (xs.map (Value.int .i64))) (hb : Below w.heap.size w wr) : ON EI 1 t w v xs wr :=
  ⟨_, h, hb, fun j x hx => by
    show _ = _
    have hj := (List.getElem?_eq_some_iff.1 hx).1
    rw [← List.map_drop, ← List.map_take]
    have : (xs.drop (j * 1)).take 1 = [x] := by
      rw [Nat.mul_one, List.drop_eq_getElem_cons hj]
      have hxj := (List.getElem?_eq_some_iff.1 hx).2
      rw [hxj]; rfl
    rw [this]; rfl⟩

end Go.Proofs.Ytlpogkcfjbabaaa

namespace Go.Proofs.Ytlpogkcfjbabaaa
open Go.RowKit

section
variable {α : Type} {E : Elem α} {C : Nat} {t : TypeId} {w w2 wr : World} {v : Value} {xs : List α}
theorem ON.app (hE : Steady E) (h : ON E C t w v xs wr) {ys : List α} {vs : List Value} {o : Obj} {fl : List Value} {g cap : Nat}
    (hfl : wr.ownsRow w.heap.size t C v xs.length fl) (hx : ∀ j y, ys[j]? = some y → E wr (fun b => b < wr.heap.size ∧ v.ownBlock ≠ some b) y ((vs.drop (j * C)).take C)) (_ : vs.length = ys.length * C)
    (hold : ∀ j y, xs[j]? = some y → E wr (fun b => b < wr.heap.size ∧ v.ownBlock ≠ some b) y ((fl.drop (j * C)).take C))
    (hown' : w2.ownsRow w.heap.size t C (.slice (some ⟨g, 0, none⟩) (xs.length + ys.length) cap) (xs.length + ys.length) (fl ++ vs)) (hgrow : (wr.alloc o).grownBy w2 v.ownBlock)
    (hat : v.ownBlock = some g ∨ wr.heap.size ≤ g) : ON E C t w (.slice (some ⟨g, 0, none⟩) (xs.length + ys.length) cap) (xs ++ ys) w2 := by
  have hB := h.below
  have hsz : wr.heap.size ≤ w2.heap.size := by have := hgrow.size; simp at this; omega
  have hkeep : ∀ b, (b < wr.heap.size ∧ v.ownBlock ≠ some b) → w2.heap[b]? = wr.heap[b]? := fun b hb =>
    (hgrow.block b (by simp; omega) (fun e => hb.2 e.symm)).trans (Below.heap_alloc wr o b hb.1)
  have hok : ∀ b, (b < wr.heap.size ∧ v.ownBlock ≠ some b) → (b < w2.heap.size ∧ (Value.slice (some ⟨g, 0, none⟩) (xs.length + ys.length) cap).ownBlock ≠ some b) := fun b hb =>
    ⟨by omega, fun e => by
      have e' : g = b := by simpa [Value.ownBlock] using e
      subst e'
      rcases hat with h' | h'
      · exact hb.2 h'
      · omega⟩
  refine ⟨fl ++ vs, by rw [List.length_append]; exact hown', (hB.alloc hB.size o).grown hgrow (by have := hB.size; simp; omega) (fun j hj => (hfl.lt j hj).1), fun j y hy => ?_⟩
  have hfll := hfl.1
  rcases Nat.lt_or_ge j xs.length with hj | hj
  · rw [List.getElem?_append_left hj] at hy
    have e := hE.keep (hold j y hy) hkeep hok
    have hlen : j * C + C ≤ fl.length := by rw [hfll, ← Nat.succ_mul]; exact Nat.mul_le_mul_right C hj
    rw [List.drop_append_of_le_length (by omega), List.take_append_of_le_length (by rw [List.length_drop]; omega)]
    exact e
  · rw [List.getElem?_append_right hj] at hy
    have e := hE.keep (hx (j - xs.length) y hy) hkeep hok
    have hd : (fl ++ vs).drop (j * C) = vs.drop ((j - xs.length) * C) := by
      rw [List.drop_append, List.drop_eq_nil_of_le (by rw [hfll]; exact Nat.mul_le_mul_right C hj), List.nil_append, hfll, ← Nat.sub_mul]
    rw [hd]
    exact e
/-- 'out = append(out, x, y ..)' of an owned row of elements: they have been laid into a block of their own -/
theorem wpList_append_ONs {P : Program} {ops : Array Oper} {rest : List Oper} {o : Oper} {a : Act} {Q : Exit → Act → World → Prop} (hgd : o.guard = none) (s x : Operand) (ty : TypeId)
    (ho : o.op = .call { callee := .builtin .append, args := #[s, x], argTypes := #[ty, ty] })
    (hE : Steady E) (h : ON E C t w v xs wr) (i : TypeInfo) (z : Value) (bytes : Nat) (ht : P.underlying ty = some (.slice t)) (hi : P.info? t = some i) (hz : i.zero = some z)
    (hsize : i.size = C) (hby : i.bytes = bytes) (hzs : z.cells.size = C) (hsz : 0 < C)
    (hs : a.eval s = v) (ys : List α) (m : Nat) (hm : ys.length = m) (hm0 : 0 < m) (cs : Array Value) (hx : a.eval x = .slice (some ⟨wr.heap.size, 0, none⟩) m m) (hl : cs.toList.length = m * C) (h1 : ∀ u ∈ cs.toList, u.oneCell' = true)
    (he : ∀ j y, ys[j]? = some y → E wr (fun b => b < wr.heap.size ∧ v.ownBlock ≠ some b) y ((cs.toList.drop (j * C)).take C))
    (h63 : xs.length + m ≤ maxLen) (hbytes : (xs.length + m) * bytes ≤ 140737488355328)
    (hk : ∀ v' w', ON E C t w v' (xs ++ ys) w' → wpList P ops Q rest (a.put o.dst v') w') : wpList P ops Q (o :: rest) a (wr.alloc (.cells cs t)) := by
  subst hm
  have hB := h.below
  obtain ⟨fl, h2, _, h4⟩ := id h
  refine wpList_append_lies (wr.alloc (.cells cs t)) hgd s x ty ho w.heap.size t i z C bytes ht hi hz hsize hby hzs hsz v xs.length fl hs (h2.alloc _) ⟨wr.heap.size, 0, none⟩ ys.length ys.length cs.toList hx hl
    (World.news_of_block (cs := cs) (t := t) (fr := (0, 0)) (heap_alloc_new wr _)) h1 hm0 h63 hbytes (by have := hB.size; simp; omega) _ rfl ?_
  intro g cap w2 hown' hgrow hat hlt
  exact hk _ _ (h.app hE h2 he hl h4 hown' hgrow (hat.imp id (fun e => by rw [e]; simp)))
end

end Go.Proofs.Ytlpogkcfjbabaaa

namespace Go.Proofs.Ytlpogkcfjbabaaa
open Go.RowKit

/-- a slice of bytes as an element -/
abbrev EP : Elem Bs := ESl EB 1
theorem ep_steady : Steady EP := ESl.steady eb_steady 1
def RP (w : World) (B : Nat) (A : Option Addr) (n : Nat) (ps : List Bs) : Prop := RN EP 1 w (Lt B) A n ps
section
variable {w w' : World} {B n c k : Nat} {A : Option Addr} {ps : List Bs}
theorem RP.len (h : RP w B A n ps) : ps.length = n := h.1
theorem RP.nil : RP w B A 0 [] := RN.nil
theorem RP.next (h : RP w w.heap.size A n ps) (hb : Below w.heap.size w w') : RP w' w'.heap.size A n ps := RN.next ep_steady h hb
theorem RP.below (h : RP w B A n ps) (hb : Below B w w') : RP w' B A n ps := RN.below ep_steady h hb
theorem RP.one (h : RP w B A n ps) (hk : k < n) : ∃ b off A' m c, A = some ⟨b, off, none⟩ ∧ b < B ∧ w.cell? ⟨b, off + k, none⟩ = some (.slice A' m c) ∧ BAsk w B A' m c (ps.getD k []) := by
  have hl : k < ps.length := by rw [h.1]; exact hk
  obtain ⟨b, off, vs, e, hb, _, hc, A', m, c, rfl, hr, h3⟩ := RN.at h (List.getElem?_eq_getElem hl)
  have := hc 0 _ rfl
  rw [show k * 1 + 0 = k by omega] at this
  have hg : ps.getD k [] = ps[k] := by rw [List.getD, List.getElem?_eq_getElem hl]; rfl
  exact ⟨b, off, A', m, c, e, hb, this, by rw [hg]; exact ⟨hr, h3.1, h3.2.1, h3.2.2⟩⟩
end
/-- parts that are asked -/
structure PAsk (w : World) (A : Option Addr) (n c : Nat) (ps : List Bs) : Prop where
  reads : RP w w.heap.size A n ps
  nil : A = none → c = 0
  cap : n ≤ c
  few : n ≤ maxLen
theorem PAsk.next {w w' : World} {A : Option Addr} {n c : Nat} {ps : List Bs} (h : PAsk w A n c ps) (hb : Below w.heap.size w w') : PAsk w' A n c ps := ⟨h.reads.next hb, h.nil, h.cap, h.few⟩
theorem BAsk.next {w w' : World} {A : Option Addr} {n c : Nat} {bs : Bs} (h : BAsk w w.heap.size A n c bs) (hb : Below w.heap.size w w') : BAsk w' w'.heap.size A n c bs := ⟨h.reads.next hb, h.nil, h.cap, h.few⟩
theorem PAsk.one {w : World} {A : Option Addr} {n c k : Nat} {ps : List Bs} (h : PAsk w A n c ps) (hk : k < n) : ∃ b off A' m c', A = some ⟨b, off, none⟩ ∧ b < w.heap.size ∧ w.cell? ⟨b, off + k, none⟩ = some (.slice A' m c') ∧ BAsk w w.heap.size A' m c' (ps.getD k []) := h.reads.one hk
/-- bytes and an error's number; the bytes lie in memory that was not there before -/
def NPost (l : Bs) (er : Int) (w : World) (e : Ending) (w' : World) : Prop :=
  (∃ A c, e = .returned (.tuple #[.slice A l.length c, .int .i64 er]) ∧ RB w' w'.heap.size A l.length l ∧ (A = none → c = 0) ∧ l.length ≤ c ∧ ∀ a, A = some a → w.heap.size ≤ a.block) ∧ Below w.heap.size w w'
theorem NPost.plain {l : Bs} {er : Int} {w w' : World} {e : Ending} (h : NPost l er w e w') : BPost l er w e w' := by
  obtain ⟨⟨A, c, h1, h2, h3, h4, _⟩, h6⟩ := h
  exact ⟨⟨A, c, h1, h2, h3, h4⟩, h6⟩
theorem NPost.trans {l : Bs} {er : Int} {w w1 w' : World} {e : Ending} (hb : Below w.heap.size w w1) (h : NPost l er w1 e w') : NPost l er w e w' := by
  obtain ⟨⟨A, c, h1, h2, h3, h4, h5⟩, h6⟩ := h
  exact ⟨⟨A, c, h1, h2, h3, h4, fun a ha => Nat.le_trans hb.size (h5 a ha)⟩, hb.trans (h6.mono hb.size)⟩
theorem npost_nil {er : Int} {w w' : World} (hb : Below w.heap.size w w') : NPost [] er w (.returned (.tuple #[.slice none 0 0, .int .i64 er])) w' := ⟨⟨none, 0, rfl, RB.nil, fun _ => rfl, Nat.le_refl _, fun a ha => by cases ha⟩, hb⟩
theorem npost_own {l : Bs} {er : Int} {w w' : World} {v : Value} {t : TypeId} (h : ON EB 1 t w v l w') : NPost l er w (.returned (.tuple #[v, .int .i64 er])) w' := by
  obtain ⟨A, c, rfl, h1, h2⟩ := h.form
  obtain ⟨fl, g1, _⟩ := id h
  refine ⟨⟨A, c, rfl, h.reads eb_steady (by omega) rfl, h1, h2, fun a ha => ?_⟩, h.below⟩
  subst ha
  rcases g1.2 with ⟨hv, _⟩ | ⟨g, cap, cur, hv, hb, _⟩
  · injection hv with e1 _ _; cases e1
  · injection hv with e1 _ _
    injection e1 with e1
    subst e1
    exact hb
theorem npost_on {l l' : Bs} {er : Int} {w W w' : World} {v : Value} {t : TypeId} (h : ON EB 1 t W v l w') (e : l = l') (hb : Below w.heap.size w W) : NPost l' er w (.returned (.tuple #[v, .int .i64 er])) w' := by
  subst e; exact (npost_own (er := er) h).trans hb
/-- parts and an error's number, read from whatever memory -/
def PPost (ps : List Bs) (er : Int) (w : World) (e : Ending) (w' : World) : Prop :=
  (∃ A c, e = .returned (.tuple #[.slice A ps.length c, .int .i64 er]) ∧ PAsk w' A ps.length c ps) ∧ Below w.heap.size w w'
/-- bytes that lie in new memory, as an element that may be appended to an owned row of parts -/
theorem ep_new {t : TypeId} {w wr wx : World} {v : Value} {ps : List Bs} {A : Option Addr} {m c : Nat} {p : Bs} (hv : ON EP 1 t w v ps wr) (_ : Below wr.heap.size wr wx) (hr : RB wx wx.heap.size A m p) (hnil : A = none → c = 0) (hc : m ≤ c) (hm : m ≤ maxLen)
    (hnew : ∀ a, A = some a → wr.heap.size ≤ a.block) : EP wx (fun b => b < wx.heap.size ∧ v.ownBlock ≠ some b) p [.slice A m c] := by
  refine ⟨A, m, c, rfl, ⟨hr.1, fun hn => ?_⟩, hnil, hc, hm⟩
  obtain ⟨b, off, e, hbl, hcell⟩ := hr.2 hn
  refine ⟨b, off, e, ⟨hbl, fun hg => ?_⟩, fun j x hx => ?_⟩
  · have h1 := hnew _ e
    obtain ⟨fl, g1, _⟩ := id hv
    have h2 := (g1.lt b hg).2
    exact absurd h2 (Nat.not_lt.2 h1)
  · obtain ⟨vs, h1, h2, h3⟩ := hcell j x hx
    exact ⟨vs, h1, h2, h3⟩

/-- a spec and an error's number -/
def SEPost (s : Sp) (er : Int) (w : World) (e : Ending) (w' : World) : Prop := e = .returned (.tuple #[spV s, .int .i64 er]) ∧ Below w.heap.size w w'
/-- a block of seven cells, known whole: each of its cells -/
theorem cells7 {wr : World} {g : Nat} {x0 x1 x2 x3 x4 x5 x6 : Value} {t : TypeId} (h : wr.heap[g]? = some (.cells #[x0, x1, x2, x3, x4, x5, x6] t (0, 0))) :
    (∀ j, wr.frozen? ⟨g, j, none⟩ = false) ∧ wr.cell? ⟨g, 0, none⟩ = some x0 ∧ wr.cell? ⟨g, 1, none⟩ = some x1 ∧ wr.cell? ⟨g, 2, none⟩ = some x2 ∧ wr.cell? ⟨g, 3, none⟩ = some x3 ∧ wr.cell? ⟨g, 4, none⟩ = some x4 ∧ wr.cell? ⟨g, 5, none⟩ = some x5 ∧ wr.cell? ⟨g, 6, none⟩ = some x6 :=
  ⟨fun j => frozen_of_row wr g j _ _ h, (cell_of_row wr g 0 _ _ (0, 0) h).trans rfl, (cell_of_row wr g 1 _ _ (0, 0) h).trans rfl, (cell_of_row wr g 2 _ _ (0, 0) h).trans rfl, (cell_of_row wr g 3 _ _ (0, 0) h).trans rfl, (cell_of_row wr g 4 _ _ (0, 0) h).trans rfl, (cell_of_row wr g 5 _ _ (0, 0) h).trans rfl, (cell_of_row wr g 6 _ _ (0, 0) h).trans rfl⟩
theorem iepost_nil {er : Int} {w w' : World} (hb : Below w.heap.size w w') : IEPost [] er w (.returned (.tuple #[.slice none 0 0, .int .i64 er])) w' := iepost_mk RI.nil (fun _ => rfl) (Nat.le_refl _) hb
theorem bs_info : (Try.prog.info? 28).map (fun i => (i.zero, i.size, i.bytes)) = some (some (.slice none 0 0), 1, 24) := by kernel_rfl
/-- an owned row of parts -/
def PON (w : World) (v : Value) (ps : List Bs) (wr : World) : Prop := ON EP 1 28 w v ps wr
theorem PON.next {w wr w1 : World} {v : Value} {ps : List Bs} (h : PON w v ps wr) (hb : Below wr.heap.size wr w1) : PON w v ps w1 := ON.next ep_steady h hb
theorem PON.nil (w : World) : PON w (.slice none 0 0) [] w := ON.nil w
/-- a slice of bytes that may be appended to the row v -/
def PN (v : Value) (w : World) (A : Option Addr) (m c : Nat) (p : Bs) : Prop := EP w (fun b => b < w.heap.size ∧ v.ownBlock ≠ some b) p [.slice A m c]
theorem PN.next {v : Value} {w w' : World} {A : Option Addr} {m c : Nat} {p : Bs} (h : PN v w A m c p) (hb : Below w.heap.size w w') : PN v w' A m c p :=
  ep_steady.keep h (fun b hb' => hb.block b hb'.1) (fun _ hb' => ⟨Nat.lt_of_lt_of_le hb'.1 hb.size, hb'.2⟩)
theorem pn_new {w wr wx : World} {v : Value} {ps : List Bs} {A : Option Addr} {m c : Nat} {p : Bs} (hv : PON w v ps wr) (hb : Below wr.heap.size wr wx) (ha : BAsk wx wx.heap.size A m c p) (hnew : ∀ a, A = some a → wr.heap.size ≤ a.block) : PN v wx A m c p :=
  ep_new hv hb ha.reads ha.nil ha.cap ha.few hnew
theorem PON.pask {w wr : World} {v : Value} {ps : List Bs} (h : PON w v ps wr) (hl : ps.length ≤ 1000) : ∃ A c, v = .slice A ps.length c ∧ PAsk wr A ps.length c ps := by
  have h' : ON EP 1 28 w v ps wr := h
  obtain ⟨A, c, rfl, h1, h2⟩ := h'.form
  exact ⟨A, c, rfl, h'.reads ep_steady (by omega) rfl, h1, h2, by unfold maxLen; omega⟩
/-- 'parts = append(parts, b)' -/
theorem wpList_append_P1 {ops : Array Oper} {rest : List Oper} {o : Oper} {a : Act} {Q : Exit → Act → World → Prop} {w wr : World} {v : Value} {ps : List Bs} (hgd : o.guard = none) (s x : Operand)
    (ho : o.op = .call { callee := .builtin .append, args := #[s, x], argTypes := #[25, 25] })
    (h : PON w v ps wr) (hs : a.eval s = v) (A : Option Addr) (m c : Nat) (p : Bs) (hp : PN v wr A m c p) (hx : a.eval x = .slice (some ⟨wr.heap.size, 0, none⟩) 1 1) (hl : ps.length ≤ 1000)
    (hk : ∀ v' w', PON w v' (ps ++ [p]) w' → wpList Try.prog ops Q rest (a.put o.dst v') w') : wpList Try.prog ops Q (o :: rest) a (wr.alloc (.cells #[.slice A m c] 28)) := by
  obtain ⟨i0, hi0, hz0, hz1, hz2⟩ := info_parts bs_info
  exact wpList_append_ON hgd s x 25 ho ep_steady h i0 (.slice none 0 0) 24 Try.underlying25 hi0 hz0 hz1 hz2 rfl (by decide) hs p #[.slice A m c] hx rfl (by intro u hu; simp at hu; subst hu; rfl) hp (by unfold maxLen; omega) (by omega) hk
/-- 'parts = append(parts, b, b)' -/
theorem wpList_append_P2 {ops : Array Oper} {rest : List Oper} {o : Oper} {a : Act} {Q : Exit → Act → World → Prop} {w wr : World} {v : Value} {ps : List Bs} (hgd : o.guard = none) (s x : Operand)
    (ho : o.op = .call { callee := .builtin .append, args := #[s, x], argTypes := #[25, 25] })
    (h : PON w v ps wr) (hs : a.eval s = v) (A : Option Addr) (m c : Nat) (p : Bs) (hp : PN v wr A m c p) (hx : a.eval x = .slice (some ⟨wr.heap.size, 0, none⟩) 2 2) (hl : ps.length ≤ 1000)
    (hk : ∀ v' w', PON w v' (ps ++ [p, p]) w' → wpList Try.prog ops Q rest (a.put o.dst v') w') : wpList Try.prog ops Q (o :: rest) a (wr.alloc (.cells #[.slice A m c, .slice A m c] 28)) := by
  obtain ⟨i0, hi0, hz0, hz1, hz2⟩ := info_parts bs_info
  refine wpList_append_ONs hgd s x 25 ho ep_steady h i0 (.slice none 0 0) 24 Try.underlying25 hi0 hz0 hz1 hz2 rfl (by decide) hs [p, p] 2 rfl (by omega) #[.slice A m c, .slice A m c] hx rfl (by intro u hu; simp at hu; subst hu; rfl) (fun j y hy => ?_) (by unfold maxLen; omega) (by omega) hk
  have hj : j < 2 := (List.getElem?_eq_some_iff.1 hy).1
  rcases (show j = 0 ∨ j = 1 by omega) with rfl | rfl
  · have : p = y := by simpa using hy
    subst this; exact hp
  · have : p = y := by simpa using hy
    subst this; exact hp

end Go.Proofs.Ytlpogkcfjbabaaa
