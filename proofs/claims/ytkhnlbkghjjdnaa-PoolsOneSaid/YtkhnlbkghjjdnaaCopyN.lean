/- 'copy(dst, src)' as a step of a walk, for elements of several cells, dst lying in a row that is known whole. General: nothing of the program stands here. -/
import Derived.Test.YtkhnlbkghjjdnaaWords
import Derived.Laws.CopyOwn
namespace Go.Proofs.Ytkhnlbkghjjdnaa
open Go.RowKit

theorem run_copy_rowN {P : Program} (w : World) (dT sT ty elem : TypeId) (g o dLen dCap : Nat) (a : Addr) (sLen sCap : Nat) (cur : Array Value) (t : TypeId) (cs : List Value) (size : Nat)
    (hu : P.underlying dT = some (.slice elem)) (hs : (P.info? elem).map (·.size) = some size)
    (hg : w.heap[g]? = some (.cells cur t (0, 0))) (hn : cs.length = Nat.min sLen dLen * size)
    (hsrc : ∀ j v, cs[j]? = some v → w.cell? (a.add j) = some v) (hfit : o + cs.length ≤ cur.size) (h1 : ∀ v ∈ cs, v.oneCell' = true) :
    (Builtin.copy_ #[dT, sT] ty #[.slice (some ⟨g, o, none⟩) dLen dCap, .slice (some a) sLen sCap]).run P w =
      .ok (goInt (Nat.min sLen dLen : Nat)) (w.setRow g (cur.toList.take o ++ cs ++ cur.toList.drop (o + cs.length)).toArray) := by
  have hl := run_loadCells_list (P := P) w a cs hsrc
  have hst := run_storeCells_at P g o t cs 0 cur w hg (by simpa using hfit) h1
  cases hq : P.info? elem with
  | none => simp [hq] at hs
  | some i =>
    have hi : i.size = size := by simpa [hq] using hs
    have hl' : (loadCells a (Nat.min sLen dLen * size)).run P w = .ok cs.toArray w := by rw [← hn]; exact hl
    simp [Builtin.copy_, run_underlying hu, Builtin.lenOf, Builtin.firstCells, sizeOf, typeInfo, hq, hi, hl', hst]

/-- what is known behind a copy: the row, all other blocks, and what lies below -/
structure Copied (B : Nat) (w0 w : World) (g : Nat) (L : List Value) (t : TypeId) (w' : World) : Prop where
  row : w'.heap[g]? = some (.cells L.toArray t (0, 0))
  other : ∀ k, k ≠ g → w'.heap[k]? = w.heap[k]?
  below : Below B w0 w'
  size : w'.heap.size = w.heap.size
theorem copied_row {B : Nat} {w0 w : World} {g : Nat} {L : List Value} {t : TypeId} {cur : List Value} (hg : w.heap[g]? = some (.cells cur.toArray t (0, 0))) (hb : Below B w0 w) (hBg : B ≤ g) : Copied B w0 w g L t (w.setRow g L.toArray) :=
  ⟨setRow_heap w g _ _ t _ hg, fun k hk => setRow_other w g k _ hk, below_setRow hb hBg _, by simp [World.setRow]⟩

theorem wpList_copy_rowN {P : Program} {w : World} {ops : Array Oper} {rest : List Oper} {o : Oper} {a : Act} {Q : Exit → Act → World → Prop} (hgd : o.guard = none) (d s : Operand) (dT sT : TypeId)
    (ho : o.op = .call { callee := .builtin .copy, args := #[d, s], argTypes := #[dT, sT] }) (elem : TypeId) (hu : P.underlying dT = some (.slice elem)) (size : Nat) (hsz : (P.info? elem).map (·.size) = some size)
    (g off dLen dCap : Nat) (ad : Addr) (sLen sCap : Nat) (hd : a.eval d = .slice (some ⟨g, off, none⟩) dLen dCap) (hs : a.eval s = .slice (some ad) sLen sCap)
    (cur : List Value) (t : TypeId) (hg : w.heap[g]? = some (.cells cur.toArray t (0, 0))) (cs : List Value) (hn : cs.length = Nat.min sLen dLen * size)
    (hsrc : ∀ j v, cs[j]? = some v → w.cell? (ad.add j) = some v) (hfit : off + cs.length ≤ cur.length) (h1 : ∀ v ∈ cs, v.oneCell' = true) (B : Nat) (w0 : World) (hb : Below B w0 w) (hBg : B ≤ g)
    (off' : Nat) (hoff : off = off')
    (h : ∀ w', Hid (Copied B w0 w g (splice cur off' cs) t w') → wpList P ops Q rest (a.put o.dst (goInt (Nat.min sLen dLen : Nat))) w') : wpList P ops Q (o :: rest) a w := by
  subst hoff
  refine wpList_plain hgd fun K hK => ?_
  have hrun := run_copy_rowN (P := P) w dT sT o.type elem g off dLen dCap ad sLen sCap cur.toArray t cs size hu hsz hg hn hsrc (by simpa using hfit) h1
  unfold Oper.wp
  simp only [execOp, ho, resolve, invoke, builtin, Sem.run_bind, Sem.run_pure, Result.andThen_ok, List.map_toArray, List.map_cons, List.map_nil, hd, hs, hrun]
  refine hK _ _ (h _ (Lib.hid ?_))
  have := copied_row (L := splice cur off cs) hg hb hBg
  simpa [splice] using this
theorem step_copy_rowN {P : Program} {ops : Array Oper} {o : Oper} {a : Act} {w : World} {K : Act → World → Prop} {Q : Exit → Act → World → Prop} {E : Prop} (hgd : o.guard = none) (d s : Operand) (dT sT : TypeId)
    (ho : o.op = .call { callee := .builtin .copy, args := #[d, s], argTypes := #[dT, sT] }) (elem : TypeId) (hu : P.underlying dT = some (.slice elem)) (size : Nat) (hsz : (P.info? elem).map (·.size) = some size)
    (g off dLen dCap : Nat) (ad : Addr) (sLen sCap : Nat) (hd : a.eval d = .slice (some ⟨g, off, none⟩) dLen dCap) (hs : a.eval s = .slice (some ad) sLen sCap)
    (cur : List Value) (t : TypeId) (hg : w.heap[g]? = some (.cells cur.toArray t (0, 0))) (cs : List Value) (hn : cs.length = Nat.min sLen dLen * size)
    (hsrc : ∀ j v, cs[j]? = some v → w.cell? (ad.add j) = some v) (hfit : off + cs.length ≤ cur.length) (h1 : ∀ v ∈ cs, v.oneCell' = true) (B : Nat) (w0 : World) (hb : Below B w0 w) (hBg : B ≤ g)
    (off' : Nat) (hoff : off = off')
    (h : ∀ w', Hid (Copied B w0 w g (splice cur off' cs) t w') → K (a.put o.dst (goInt (Nat.min sLen dLen : Nat))) w') :
    if Region.wanted o (yielded ops a.tmps) = true then Oper.wp P o a w K Q else E := by
  subst hoff
  have hw : Region.wanted o (yielded ops a.tmps) = true := by simp [Region.wanted, hgd]
  rw [if_pos hw]
  have hrun := run_copy_rowN (P := P) w dT sT o.type elem g off dLen dCap ad sLen sCap cur.toArray t cs size hu hsz hg hn hsrc (by simpa using hfit) h1
  unfold Oper.wp
  simp only [execOp, ho, resolve, invoke, builtin, Sem.run_bind, Sem.run_pure, Result.andThen_ok, List.map_toArray, List.map_cons, List.map_nil, hd, hs, hrun]
  refine h _ (Lib.hid ?_)
  have := copied_row (L := splice cur off cs) hg hb hBg
  simpa [splice] using this

/-- a row whose tail goes up to make room, and what comes is laid there -/
theorem splice_shift {α : Type} {L c v : List α} {m : Nat} (hc : L.take c.length = c) (hm : m ≤ c.length) (hfit : c.length + v.length ≤ L.length) :
    (splice (splice L (m + v.length) (c.drop m)) m v).take (c.length + v.length) = c.take m ++ (v ++ c.drop m) := by
  have e1 : (splice L (m + v.length) (c.drop m)).take m = c.take m := by
    unfold splice
    rw [List.take_append_of_le_length (by rw [List.length_take]; omega), List.take_take, Nat.min_eq_left (by omega)]
    have := congrArg (List.take m) hc
    rwa [List.take_take, Nat.min_eq_left hm] at this
  have hl : (L.take (m + v.length)).length = m + v.length := by rw [List.length_take]; omega
  have e2 : (splice L (m + v.length) (c.drop m)).drop (m + v.length) = c.drop m ++ L.drop (m + v.length + (c.drop m).length) := by
    unfold splice
    rw [List.drop_append_of_le_length (by omega), List.drop_of_length_le (by omega), List.nil_append]
  show ((splice L (m + v.length) (c.drop m)).take m ++ (v ++ (splice L (m + v.length) (c.drop m)).drop (m + v.length))).take (c.length + v.length) = _
  rw [e1, e2, ← List.append_assoc v, ← List.append_assoc, ← List.append_assoc]
  rw [List.take_append_of_le_length (by simp; omega), List.take_of_length_le (by simp; omega), List.append_assoc]
/-- a new row's head, with what comes and the rest laid behind it -/
theorem splice_fill {α : Type} {L a v d : List α} (ha : L.take a.length = a) (_ : a.length + v.length + d.length ≤ L.length) :
    (splice (splice L a.length v) (a.length + v.length) d).take (a.length + v.length + d.length) = a ++ (v ++ d) := by
  have e1 : (splice L a.length v).take (a.length + v.length) = a ++ v := by
    unfold splice
    rw [ha, ← List.append_assoc, List.take_append_of_le_length (by simp), List.take_of_length_le (by simp)]
  show ((splice L a.length v).take (a.length + v.length) ++ (d ++ _)).take _ = _
  rw [e1, ← List.append_assoc, List.take_append_of_le_length (by simp; omega), List.take_of_length_le (by simp; omega), List.append_assoc]

end Go.Proofs.Ytkhnlbkghjjdnaa
