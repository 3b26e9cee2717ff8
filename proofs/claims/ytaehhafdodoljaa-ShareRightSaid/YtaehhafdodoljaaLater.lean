/- Regions that draw their order and whose callees may make memory of their own, but hand back plain values: walked once, in the order of the text, in the class of all worlds that keep what was there. No program's text is walked here. -/
import Derived.Test.YtaehhafdodoljaaWords
import Derived.BigQuiet
import Derived.Deep.RegionHeld3
namespace Go.Proofs.Ytaehhafdodoljaa
open Go.RowKit

/-- a world that keeps all that was there in w -/
structure Later (w : World) where
  now : World
  bel : Below w.heap.size w now
instance (w : World) : Nonempty (Later w) := ⟨⟨w, Below.refl _ _⟩⟩
theorem below_drew1 (w : World) : Below w.heap.size w w.drew := bel_drew w 1
theorem wp_region_later {P : Program} {id : Nat} {Q : Exit → Act → World → Prop} {a : Act} {w : World} {l : List Oper} (hm : P.follows .mixedOrders = true) (hB : Region.lexB .any l.toArray = true)
    (h : wpQuiet P l.toArray (fun w' => ∃ p : Later w, w' = p.now) (fun a' => ∀ w', (∃ p : Later w, w' = p.now) → Q .normal a' w') l a) : (Code.region id l.toArray true).wp P Q a w :=
  wp_region_quiet (C := fun w' => ∃ p : Later w, w' = p.now) hm hB ⟨⟨w.drew, below_drew1 w⟩, rfl⟩ (by simpa using h)
theorem Calls.later_of {P : Program} {f : FuncId} {args : Array Value} {w : World} {p : Later w} {v : Value} (h : Calls P f args p.now fun e w' => e = .returned v ∧ Below p.now.heap.size p.now w') :
    Calls P f args p.now fun e w'' => e = .returned v ∧ ∃ q : Later w, w'' = q.now :=
  h.mono fun _ w' hz => ⟨hz.1, ⟨w', p.bel.trans (hz.2.mono p.bel.size)⟩, rfl⟩
theorem Later.cell {w : World} {p : Later w} {a : Addr} {v : Value} (hl : a.block < w.heap.size) (h : w.cell? a = some v) : p.now.cell? a = some v := (p.bel.cell hl).trans h

/-! a cell that is carried from world to world -/
theorem bel_drew1 (w : World) : Below w.heap.size w w.drew := bel_drew w 1
theorem keep_cell {w wx : World} {p : Addr} {v : Value} (hl : p.block < w.heap.size) (h : w.cell? p = some v) (hb : Below w.heap.size w wx) : wx.cell? p = some v := (hb.cell hl).trans h
structure CellK (w : World) (p : Addr) (v : Value) : Prop where
  lt : p.block < w.heap.size
  at' : w.cell? p = some v
theorem CellK.next {w w' : World} {p : Addr} {v : Value} (h : CellK w p v) (hb : Below w.heap.size w w') : CellK w' p v := ⟨Nat.lt_of_lt_of_le h.lt hb.size, keep_cell h.lt h.at' hb⟩

end Go.Proofs.Ytaehhafdodoljaa
