/- The program's reader of bytes in memory: a block that holds the bytes and how far it is; what a call that moves it on keeps; how it gives up. -/
import Derived.Defers
import Derived.Recover
import Derived.Test.YtlpogkcfjbabaaaMg06
namespace Go.Proofs.Ytlpogkcfjbabaaa
open Go.RowKit

/-- all blocks but g are as they were -/
structure But (g : Nat) (w w' : World) : Prop where
  os : w'.os = w.os
  tape : w'.tape = w.tape
  output : w'.output = w.output
  size : w.heap.size ≤ w'.heap.size
  block : ∀ b, b < w.heap.size → b ≠ g → w'.heap[b]? = w.heap[b]?
section
variable {g : Nat} {w w1 w' : World}
theorem But.refl (g : Nat) (w : World) : But g w w := ⟨rfl, rfl, rfl, Nat.le_refl _, fun _ _ _ => rfl⟩
theorem But.trans (h : But g w w1) (k : But g w1 w') : But g w w' :=
  ⟨k.os.trans h.os, k.tape.trans h.tape, k.output.trans h.output, Nat.le_trans h.size k.size, fun b h1 h2 => (k.block b (Nat.lt_of_lt_of_le h1 h.size) h2).trans (h.block b h1 h2)⟩
theorem But.of (g : Nat) (h : Below w.heap.size w w') : But g w w' := ⟨h.os, h.tape, h.output, h.size, fun b h1 _ => h.block b h1⟩
theorem But.next (h : But g w w1) (k : Below w1.heap.size w1 w') : But g w w' := h.trans (But.of g k)
theorem But.below {B : Nat} (h : But g w w') (hB : B ≤ g) (hg : g < w.heap.size) : Below B w w' := ⟨h.os, h.tape, h.output, h.size, fun b hb => h.block b (by omega) (by omega)⟩
theorem But.set (h : But g w w1) (j : Nat) (u : Value) : But g w (w1.setCell ⟨g, j, none⟩ u) :=
  h.trans ⟨rfl, rfl, rfl, by simp [World.setCell], fun b _ hb => Below.heap_setCell _ _ _ _ hb⟩
theorem But.drewN (h : But g w w1) (q : Nat) : But g w (w1.drewN q) := h.next (bel_drew w1 q)
end
/-- the cells of a reader's block -/
def rdO (A : Option Addr) (n c k : Nat) : Obj := .cells #[.slice A n c, .int .i64 (k : Int)] 85
/-- block g holds a reader of bs, which has come to byte k; the bytes lie below it -/
structure Rdr (w : World) (g : Nat) (A : Option Addr) (n c k : Nat) (bs : Bs) : Prop where
  at' : w.heap[g]? = some (rdO A n c k)
  bytes : BAsk w g A n c bs
  le : k ≤ n
  few : n ≤ 65536
  from' : ∃ W : World, Glob W ∧ W.heap.size ≤ g ∧ Below W.heap.size W w
section
variable {w w' : World} {g n c k : Nat} {A : Option Addr} {bs : Bs}
theorem Rdr.lt (h : Rdr w g A n c k bs) : g < w.heap.size := (Array.getElem?_eq_some_iff.1 h.at').1
theorem Rdr.len (h : Rdr w g A n c k bs) : bs.length = n := h.bytes.reads.len
theorem Rdr.next (h : Rdr w g A n c k bs) (hb : Below w.heap.size w w') : Rdr w' g A n c k bs :=
  ⟨(hb.block _ h.lt).trans h.at', h.bytes.below (hb.mono (Nat.le_of_lt h.lt)), h.le, h.few, by
    obtain ⟨W, h1, h2, h3⟩ := h.from'
    exact ⟨W, h1, h2, h3.trans (hb.mono (Nat.le_trans h2 (Nat.le_of_lt h.lt)))⟩⟩
theorem Rdr.glob (h : Rdr w g A n c k bs) : Glob w := by
  obtain ⟨W, h1, h2, h3⟩ := h.from'
  exact h1.next h3
theorem Rdr.drewN (h : Rdr w g A n c k bs) (q : Nat) : Rdr (w.drewN q) g A n c k bs := h.next (bel_drew w q)
theorem Rdr.c0 (h : Rdr w g A n c k bs) : w.cell? ⟨g, 0, none⟩ = some (.slice A n c) := (cell_of_row w g 0 _ _ (0, 0) h.at').trans rfl
theorem Rdr.c1 (h : Rdr w g A n c k bs) : w.cell? ⟨g, 1, none⟩ = some (.int .i64 (k : Int)) := (cell_of_row w g 1 _ _ (0, 0) h.at').trans rfl
theorem Rdr.frozen (h : Rdr w g A n c k bs) (j : Nat) : w.frozen? ⟨g, j, none⟩ = false := frozen_of_row w g j _ _ h.at'
/-- the reader has moved on -/
theorem Rdr.set (h : Rdr w g A n c k bs) {k' : Nat} (hk : k' ≤ n) : Rdr (w.setCell ⟨g, 1, none⟩ (.int .i64 (k' : Int))) g A n c k' bs :=
  ⟨by
    have := h.at'
    simp only [World.setCell, Array.getElem?_modify]
    simp only [if_true]
    rw [this]
    rfl, h.bytes.below ((Below.refl g w).setCell (p := ⟨g, 1, none⟩) (Nat.le_refl _) _), hk, h.few, by
    obtain ⟨W, h1, h2, h3⟩ := h.from'
    exact ⟨W, h1, h2, h3.setCell (p := ⟨g, 1, none⟩) h2 _⟩⟩
/-- a block beyond it is written -/
theorem Rdr.beyond (h : Rdr w g A n c k bs) {b : Nat} (hb : g < b) (j : Nat) (u : Value) : Rdr (w.setCell ⟨b, j, none⟩ u) g A n c k bs :=
  ⟨(Below.heap_setCell _ _ _ _ (by show g ≠ b; omega)).trans h.at', h.bytes.below ((Below.refl g w).setCell (p := ⟨b, j, none⟩) (Nat.le_of_lt hb) _), h.le, h.few, by
    obtain ⟨W, h1, h2, h3⟩ := h.from'
    exact ⟨W, h1, h2, h3.setCell (p := ⟨b, j, none⟩) (by show _ ≤ b; omega) _⟩⟩
end
/-- how a reader gives up -/
def gaveUp (er : Nat) : List PanicEntry := [{ v := .iface 29 (.int .i64 (er : Int)), recovered := false }]
/-- what a call of the reader ends in: as the plain reader tells it -/
def RdP {α : Type} (V : World → World → α → Value → Prop) (g : Nat) (A : Option Addr) (n c k : Nat) (bs : Bs) (r : Except Nat (α × Bs)) (w : World) (e : Ending) (w' : World) : Prop := match r with
  | .ok (x, t) => (∃ v, e = .returned v ∧ V w w' x v) ∧ (∃ k', k ≤ k' ∧ t = bs.drop k' ∧ Rdr w' g A n c k' bs) ∧ But g w w'
  | .error er => e = .panicked (gaveUp er) ∧ But g w w'
section
variable {α : Type} {V : World → World → α → Value → Prop} {g n c k : Nat} {A : Option Addr} {bs : Bs} {w : World} {F : FuncId} {args : Array Value} {r : Except Nat (α × Bs)} {x : α} {t : Bs} {er : Nat}
theorem rdp_ok (h : Calls Try.prog F args w (RdP V g A n c k bs r w)) (hr : r = .ok (x, t)) :
    Calls Try.prog F args w fun e w' => ∃ v, e = .returned v ∧ V w w' x v ∧ ∃ k', k ≤ k' ∧ t = bs.drop k' ∧ Rdr w' g A n c k' bs ∧ But g w w' := by
  subst hr
  exact h.mono fun _ _ ⟨⟨v, h1, h2⟩, ⟨k', h3, h4, h5⟩, h6⟩ => ⟨v, h1, h2, k', h3, h4, h5, h6⟩
theorem rdp_err (h : Calls Try.prog F args w (RdP V g A n c k bs r w)) (hr : r = .error er) :
    Calls Try.prog F args w fun e w' => e = .panicked (gaveUp er) ∧ But g w w' := by
  subst hr; exact h
theorem rdp_ok_mk {v : Value} {w' : World} {k' : Nat} (hr : r = .ok (x, t)) (hV : V w w' x v) (hk : k ≤ k') (ht : t = bs.drop k') (h : Rdr w' g A n c k' bs) (hb : But g w w') : RdP V g A n c k bs r w (.returned v) w' := by
  subst hr; exact ⟨⟨v, rfl, hV⟩, ⟨k', hk, ht, h⟩, hb⟩
theorem rdp_err_mk {w' : World} (hr : r = .error er) (hb : But g w w') : RdP V g A n c k bs r w (.panicked (gaveUp er)) w' := by
  subst hr; exact ⟨rfl, hb⟩
end
def VNum (_ _ : World) (x : Nat) (v : Value) : Prop := v = .int .i64 (x : Int)
def VByte (_ _ : World) (x : UInt8) (v : Value) : Prop := v = .int .u8 (x.toNat : Int)

theorem Rdr.byte {w : World} {g n c k : Nat} {A : Option Addr} {bs : Bs} (h : Rdr w g A n c k bs) (hk : k < n) :
    ∃ b off, A = some ⟨b, off, none⟩ ∧ b < g ∧ w.cell? ⟨b, off + k, none⟩ = some (.int .u8 (((bs.getD k 0).toNat : Nat) : Int)) ∧ bs.drop k = bs.getD k 0 :: bs.drop (k + 1) := by
  obtain ⟨b, off, e, hb, hc⟩ := h.bytes.reads.one hk
  have hl : k < bs.length := by rw [h.len]; exact hk
  exact ⟨b, off, e, hb, hc, by rw [List.drop_eq_getElem_cons hl, List.getD, List.getElem?_eq_getElem hl]; rfl⟩

/-- the text's own panic -/
theorem panics (t : TypeId) (v : Value) (w : World) : (Instr.panic (.iface t v)).run Try.prog w = .halt (.panic (.iface t v)) w := rfl
set_option maxRecDepth 100000 in
set_option maxHeartbeats 4000000 in
/-- need: gives up, if what must hold doesn't -/
theorem need_any (g : Nat) (b : Bool) (w : World) :
    Calls Try.prog 49 #[.pointer (some ⟨g, 0, none⟩), .bool b] w fun e w' => e = (if b = true then .returned (.tuple #[]) else .panicked (gaveUp 3)) ∧ w' = w := by
  cases b with
  | true =>
    go_enter Try.func49, Try.ntmps49
    go_wp2
    go_end0
    exact ⟨rfl, rfl⟩
  | false =>
    have hpn := panics
    go_enter Try.func49, Try.ntmps49
    go_wp2
    exact ⟨rfl, rfl, rfl⟩
theorem need_yes {g : Nat} {b : Bool} {w : World} (h : b = true) : Calls Try.prog 49 #[.pointer (some ⟨g, 0, none⟩), .bool b] w fun e w' => e = .returned (.tuple #[]) ∧ w' = w := by
  subst h; exact (need_any g true w).mono fun _ _ ⟨h1, h2⟩ => ⟨h1, h2⟩
theorem need_no {g : Nat} {b : Bool} {w : World} (h : b = false) : Calls Try.prog 49 #[.pointer (some ⟨g, 0, none⟩), .bool b] w fun e w' => e = .panicked (gaveUp 3) ∧ w' = w := by
  subst h; exact (need_any g false w).mono fun _ _ ⟨h1, h2⟩ => ⟨h1, h2⟩

set_option maxRecDepth 100000 in
set_option maxHeartbeats 4000000 in
theorem next_any (g : Nat) (A : Option Addr) (n c k : Nat) (bs : Bs) (w : World) (h : Rdr w g A n c k bs) :
    Calls Try.prog 50 #[.pointer (some ⟨g, 0, none⟩)] w (RdP VByte g A n c k bs (byteR (bs.drop k)) w) := by
  have H := Lib.hid h
  have h0 := h.c0
  have h1 := h.c1
  have hz := h.frozen
  have hle := h.le
  have hn := h.few
  clear h
  by_cases hk : k = n
  · have hr : Hid (byteR (bs.drop k) = .error 2) := Lib.hid (by rw [hk, List.drop_of_length_le (by rw [H.out.len]; omega)]; rfl)
    have hd : ((k : Int) == (n : Int)) = true := by simp; omega
    clear hk
    have hpn := panics
    go_enter Try.func50, Try.ntmps50
    go_wp2
    go_quiet (fail)
    go_wp2
    exact ⟨rfl, rdp_err_mk hr.out ((But.refl _ _).drewN _)⟩
  · obtain ⟨b, off, rfl, hb, hc, hdr⟩ := H.out.byte (by omega)
    have hr : Hid (byteR (bs.drop k) = .ok (bs.getD k 0, bs.drop (k + 1))) := Lib.hid (by rw [hdr]; rfl)
    have hd : ((k : Int) == (n : Int)) = false := by simp; omega
    have hlt : k < n := by omega
    obtain ⟨x, hx⟩ : ∃ x, bs.getD k 0 = x := ⟨_, rfl⟩
    rw [hx] at hc hr
    clear hdr hk hx
    go_enter Try.func50, Try.ntmps50
    go_wp2
    go_quiet (fail)
    go_wp2
    go_quiet (fail)
    go_wp2
    go_ret
    exact rdp_ok_mk hr.out rfl (Nat.le_succ k) rfl ((H.out.drewN _).set hlt) (((But.refl _ _).drewN _).set _ _)

end Go.Proofs.Ytlpogkcfjbabaaa
