/- 'copy(dst, src)' as a step of a walk, for elements of several cells, dst lying in a row that is known whole. General: nothing of the program stands here. slices.Insert and slices.Delete of holdings (the library's own text), in a row of one's own: there is room or not, at the end or ahead of it. slices.Delete of one holding (the library's own text), in a row of one's own. Plain facts for the program's way through a table: till when each thing is held, by those gone through, the earlier ones first. No program's text is walked here. The program's find: slices.BinarySearchFunc over a table, by a walk over its text. Plain facts: what is added, dropped, got, cut short, told by the place where a number stands; rows of cells, one more or one less. Go's slices.SortFunc of holdings at this dump, by the library's contract. The program's byFrom: a table's holdings in a new row, the earlier ones first. Words for memory: an array of 256 numbers in a block of its own (till when each thing is held): made, marked, loaded whole, asked at a place. -/
import Derived.Laws.CopyOwn
import Derived.Test.YtchogijdkagiiaaGreatDoorMg01
import Derived.Lib.Overlaps
import Derived.Lib.AppendZerosOnto
import Derived.Deep.RegionLaw
import Derived.Laws.NewBlocks
import Derived.IntWalk
import Derived.LoopTactic
import Derived.Test.YtchogijdkagiiaaGreatDoorMg06
import Derived.Test.YtchogijdkagiiaaGreatDoorMg08
import Derived.Shelf.GgSortFunc.RowK
import Derived.Lib.SliceRun
import Derived.Laws.Rows
import Derived.Test.YtchogijdkagiiaaGreatDoorMg02
import Derived.RegionTactic
import Derived.Shelf.Abstract
import Derived.Test.YtchogijdkagiiaaGreatDoorMg07
import Derived.Shelf.SlSortCmp.WholeK
import Derived.Shelf.SlSortCmp.NoneTotal
import Derived.Test.YtchogijdkagiiaaGreatDoorProg
namespace Go.Proofs.YtchogijdkagiiaaGreatDoor
open Go.RowKit

theorem run_copy_rowN {P : Program} (w : World) (dT sT ty elem : TypeId) (g o dLen dCap : Nat) (a : Addr) (sLen sCap : Nat) (cur : Array Value) (t : TypeId) (cs : List Value) (size : Nat)
    (hu : P.underlying dT = some (.slice elem)) (hs : (P.info? elem).map (·.size) = some size)
    (hg : w.heap[g]? = some (.cells cur t (0, 0))) (hn : cs.length = Nat.min sLen dLen * size)
    (hsrc : ∀ j v, cs[j]? = some v → w.cell? (a.add j) = some v) (hfit : o + cs.length ≤ cur.size) (h1 : ∀ v ∈ cs, v.oneCell' = true) :
    (Builtin.copy_ #[dT, sT] ty #[.slice (some ⟨g, o, none⟩) dLen dCap, .slice (some a) sLen sCap]).run P w =
      .ok (goInt (Nat.min sLen dLen : Nat)) (w.setRow g (cur.toList.take o ++ cs ++ cur.toList.drop (o + cs.length)).toArray) := by
  have hl := run_loadCells_list (P := P) w a cs hsrc
  have hst := run_storeCells_at P g o t cs 0 cur w hg (by simpa using hfit) h1
  cases hq : P.info? elem with
  | none => simp [hq] at hs
  | some i =>
    have hi : i.size = size := by simpa [hq] using hs
    have hl' : (loadCells a (Nat.min sLen dLen * size)).run P w = .ok cs.toArray w := by rw [← hn]; exact hl
    simp [Builtin.copy_, run_underlying hu, Builtin.lenOf, Builtin.firstCells, sizeOf, typeInfo, hq, hi, hl', hst]

/-- what is known behind a copy: the row, all other blocks, and what lies below -/
structure Copied (B : Nat) (w0 w : World) (g : Nat) (L : List Value) (t : TypeId) (w' : World) : Prop where
  row : w'.heap[g]? = some (.cells L.toArray t (0, 0))
  other : ∀ k, k ≠ g → w'.heap[k]? = w.heap[k]?
  below : Below B w0 w'
  size : w'.heap.size = w.heap.size
theorem copied_row {B : Nat} {w0 w : World} {g : Nat} {L : List Value} {t : TypeId} {cur : List Value} (hg : w.heap[g]? = some (.cells cur.toArray t (0, 0))) (hb : Below B w0 w) (hBg : B ≤ g) : Copied B w0 w g L t (w.setRow g L.toArray) :=
  ⟨setRow_heap w g _ _ t _ hg, fun k hk => setRow_other w g k _ hk, Go.below_setRow hb hBg _, by simp [World.setRow]⟩

theorem wpList_copy_rowN {P : Program} {w : World} {ops : Array Oper} {rest : List Oper} {o : Oper} {a : Act} {Q : Exit → Act → World → Prop} (hgd : o.guard = none) (d s : Operand) (dT sT : TypeId)
    (ho : o.op = .call { callee := .builtin .copy, args := #[d, s], argTypes := #[dT, sT] }) (elem : TypeId) (hu : P.underlying dT = some (.slice elem)) (size : Nat) (hsz : (P.info? elem).map (·.size) = some size)
    (g off dLen dCap : Nat) (ad : Addr) (sLen sCap : Nat) (hd : a.eval d = .slice (some ⟨g, off, none⟩) dLen dCap) (hs : a.eval s = .slice (some ad) sLen sCap)
    (cur : List Value) (t : TypeId) (hg : w.heap[g]? = some (.cells cur.toArray t (0, 0))) (cs : List Value) (hn : cs.length = Nat.min sLen dLen * size)
    (hsrc : ∀ j v, cs[j]? = some v → w.cell? (ad.add j) = some v) (hfit : off + cs.length ≤ cur.length) (h1 : ∀ v ∈ cs, v.oneCell' = true) (B : Nat) (w0 : World) (hb : Below B w0 w) (hBg : B ≤ g)
    (off' : Nat) (hoff : off = off')
    (h : ∀ w', Hid (Copied B w0 w g (splice cur off' cs) t w') → wpList P ops Q rest (a.put o.dst (goInt (Nat.min sLen dLen : Nat))) w') : wpList P ops Q (o :: rest) a w := by
  subst hoff
  refine wpList_plain hgd fun K hK => ?_
  have hrun := run_copy_rowN (P := P) w dT sT o.type elem g off dLen dCap ad sLen sCap cur.toArray t cs size hu hsz hg hn hsrc (by simpa using hfit) h1
  unfold Oper.wp
  simp only [execOp, ho, resolve, invoke, builtin, Sem.run_bind, Sem.run_pure, Result.andThen_ok, List.map_toArray, List.map_cons, List.map_nil, hd, hs, hrun]
  refine hK _ _ (h _ (Lib.hid ?_))
  have := copied_row (L := splice cur off cs) hg hb hBg
  simpa [splice] using this
theorem step_copy_rowN {P : Program} {ops : Array Oper} {o : Oper} {a : Act} {w : World} {K : Act → World → Prop} {Q : Exit → Act → World → Prop} {E : Prop} (hgd : o.guard = none) (d s : Operand) (dT sT : TypeId)
    (ho : o.op = .call { callee := .builtin .copy, args := #[d, s], argTypes := #[dT, sT] }) (elem : TypeId) (hu : P.underlying dT = some (.slice elem)) (size : Nat) (hsz : (P.info? elem).map (·.size) = some size)
    (g off dLen dCap : Nat) (ad : Addr) (sLen sCap : Nat) (hd : a.eval d = .slice (some ⟨g, off, none⟩) dLen dCap) (hs : a.eval s = .slice (some ad) sLen sCap)
    (cur : List Value) (t : TypeId) (hg : w.heap[g]? = some (.cells cur.toArray t (0, 0))) (cs : List Value) (hn : cs.length = Nat.min sLen dLen * size)
    (hsrc : ∀ j v, cs[j]? = some v → w.cell? (ad.add j) = some v) (hfit : off + cs.length ≤ cur.length) (h1 : ∀ v ∈ cs, v.oneCell' = true) (B : Nat) (w0 : World) (hb : Below B w0 w) (hBg : B ≤ g)
    (off' : Nat) (hoff : off = off')
    (h : ∀ w', Hid (Copied B w0 w g (splice cur off' cs) t w') → K (a.put o.dst (goInt (Nat.min sLen dLen : Nat))) w') :
    if Region.wanted o (yielded ops a.tmps) = true then Oper.wp P o a w K Q else E := by
  subst hoff
  have hw : Region.wanted o (yielded ops a.tmps) = true := by simp [Region.wanted, hgd]
  rw [if_pos hw]
  have hrun := run_copy_rowN (P := P) w dT sT o.type elem g off dLen dCap ad sLen sCap cur.toArray t cs size hu hsz hg hn hsrc (by simpa using hfit) h1
  unfold Oper.wp
  simp only [execOp, ho, resolve, invoke, builtin, Sem.run_bind, Sem.run_pure, Result.andThen_ok, List.map_toArray, List.map_cons, List.map_nil, hd, hs, hrun]
  refine h _ (Lib.hid ?_)
  have := copied_row (L := splice cur off cs) hg hb hBg
  simpa [splice] using this

/-- a row whose tail goes up to make room, and what comes is laid there -/
theorem splice_shift {α : Type} {L c v : List α} {m : Nat} (hc : L.take c.length = c) (hm : m ≤ c.length) (hfit : c.length + v.length ≤ L.length) :
    (splice (splice L (m + v.length) (c.drop m)) m v).take (c.length + v.length) = c.take m ++ (v ++ c.drop m) := by
  have e1 : (splice L (m + v.length) (c.drop m)).take m = c.take m := by
    unfold splice
    rw [List.take_append_of_le_length (by rw [List.length_take]; omega), List.take_take, Nat.min_eq_left (by omega)]
    have := congrArg (List.take m) hc
    rwa [List.take_take, Nat.min_eq_left hm] at this
  have hl : (L.take (m + v.length)).length = m + v.length := by rw [List.length_take]; omega
  have e2 : (splice L (m + v.length) (c.drop m)).drop (m + v.length) = c.drop m ++ L.drop (m + v.length + (c.drop m).length) := by
    unfold splice
    rw [List.drop_append_of_le_length (by omega), List.drop_of_length_le (by omega), List.nil_append]
  show ((splice L (m + v.length) (c.drop m)).take m ++ (v ++ (splice L (m + v.length) (c.drop m)).drop (m + v.length))).take (c.length + v.length) = _
  rw [e1, e2, ← List.append_assoc v, ← List.append_assoc, ← List.append_assoc]
  rw [List.take_append_of_le_length (by simp; omega), List.take_of_length_le (by simp; omega), List.append_assoc]
/-- a new row's head, with what comes and the rest laid behind it -/
theorem splice_fill {α : Type} {L a v d : List α} (ha : L.take a.length = a) (_ : a.length + v.length + d.length ≤ L.length) :
    (splice (splice L a.length v) (a.length + v.length) d).take (a.length + v.length + d.length) = a ++ (v ++ d) := by
  have e1 : (splice L a.length v).take (a.length + v.length) = a ++ v := by
    unfold splice
    rw [ha, ← List.append_assoc, List.take_append_of_le_length (by simp), List.take_of_length_le (by simp)]
  show ((splice L a.length v).take (a.length + v.length) ++ (d ++ _)).take _ = _
  rw [e1, ← List.append_assoc, List.take_append_of_le_length (by simp; omega), List.take_of_length_le (by simp; omega), List.append_assoc]

end Go.Proofs.YtchogijdkagiiaaGreatDoor

namespace Go.Proofs.YtchogijdkagiiaaGreatDoor
open Go.RowKit

/-- the row behind an Insert or a Delete; all other blocks are kept -/
def InsQ (base n : Nat) (fl : List Value) (v : Value) (w : World) (e : Ending) (w' : World) : Prop :=
  ∃ v', e = .returned v' ∧ w'.ownsRow base 41 4 v' n fl ∧ Below base w w' ∧ Keeps w v w' v'
theorem held_size : (Tryz.prog.info? 41).map (·.size) = some 4 := by kernel_rfl
theorem add_off (b j k : Nat) : (⟨b, j, none⟩ : Addr).add k = ⟨b, j + k, none⟩ := by unfold Addr.add; split <;> simp_all

section
variable {base g cap n i vb : Nat} {fl cur : List Value} {v0 v1 v2 v3 : Value} {w : World}
theorem four_at {W : World} (hv : W.heap[vb]? = some (.cells #[v0, v1, v2, v3] 41 (0, 0))) : ∀ j u, ([v0, v1, v2, v3] : List Value)[j]? = some u → W.cell? ((⟨vb, 0, none⟩ : Addr).add j) = some u := by
  intro j u hj
  rw [add_off, cell_of_row W vb (0 + j) _ _ (0, 0) hv, Nat.zero_add]
  match j, hj with
  | 0, hj => exact hj
  | 1, hj => exact hj
  | 2, hj => exact hj
  | 3, hj => exact hj

set_option maxHeartbeats 4000000 in
set_option maxRecDepth 100000 in
/-- at the end -/
theorem insertH_end (hn : n ≤ 3000) (hown : w.ownsRow base 41 4 (.slice (some ⟨g, 0, none⟩) n cap) n fl)
    (hv : w.heap[vb]? = some (.cells #[v0, v1, v2, v3] 41 (0, 0))) (h4 : ∀ u ∈ ([v0, v1, v2, v3] : List Value), u.oneCell' = true) :
    Calls Tryz.prog 43 #[.slice (some ⟨g, 0, none⟩) n cap, .int .i64 n, .slice (some ⟨vb, 0, none⟩) 1 1] w (InsQ base (n + 1) (fl ++ [v0, v1, v2, v3]) (.slice (some ⟨g, 0, none⟩) n cap) w) := by
  obtain ⟨i0, hi0, hz0, hz1, hz2⟩ : ∃ i, Tryz.prog.info? 41 = some i ∧ i.zero = some (.agg #[.int .i64 0, .slice none 0 0, .int .i64 0, .int .i64 0]) ∧ i.size = 4 ∧ i.bytes = 48 := info_parts held_info
  have HO := Lib.hid hown
  have HG : Hid (base ≤ g ∧ g < w.heap.size) := Lib.hid (hown.lt g rfl)
  have HV := Lib.hid hv
  have H4 := Lib.hid h4
  clear hown hv h4
  go_enter Tryz.func43, Tryz.ntmps43
  go_wp2_with (at_builtin; refine wpList_append_lies _ rfl _ _ 24 rfl base 41 i0 (.agg #[.int .i64 0, .slice none 0 0, .int .i64 0, .int .i64 0]) 4 48 Tryz.underlying24 hi0 hz0 hz1 hz2 rfl (by decide) (.slice (some ⟨g, 0, none⟩) n cap) n _ rfl HO.out ⟨vb, 0, none⟩ 1 1 [v0, v1, v2, v3] rfl rfl (World.news_of_block HV.out) H4.out (by omega) (by unfold maxLen; omega) (by omega) (by have := HG.out; omega) _ rfl ?_; intro g' cap' w1 hown' hgrow hat _; refine Hid.out ?_)
  all_goals refine Lib.hid ?_
  all_goals have R := Lib.hid hown'
  all_goals have HB : Hid (Below base w w1) := Lib.hid ((Below.refl _ _).grown hgrow (by have := HG.out; omega) (fun k hk => (HO.out.lt k hk).1))
  all_goals have HK : Hid (Keeps w (.slice (some ⟨g, 0, none⟩) n cap) w1 (.slice (some ⟨g', 0, none⟩) (n + 1) cap')) := Lib.hid ⟨fun b hb hne => hgrow.block b hb (fun e => hne e.symm), hgrow.size, hat.imp (fun e => e.symm) (fun e b hb => by
      have hb' : g' = b := by simpa [Value.ownBlock] using hb
      rw [← hb', e]; exact Nat.le_refl _)⟩
  all_goals clear hown' hgrow hat
  all_goals go_wp2
  all_goals go_ret
  all_goals exact ⟨_, rfl, R.out, HB.out, HK.out⟩
end
theorem overlapsH_no (w : World) (vb g o lb cb : Nat) (a b c d : Value) (cur : List Value) (hg : w.heap[g]? = some (.cells cur.toArray 41 (0, 0))) (hpos : cur.length ≠ 0) (hv : w.heap[vb]? = some (.cells #[a, b, c, d] 41 (0, 0))) (hne : vb ≠ g) :
    (callFunc 67 #[.slice (some ⟨vb, 0, none⟩) 1 1, .slice (some ⟨g, o, none⟩) lb cb]).run Tryz.prog w = .ok (.value (.bool false)) w := by
  rw [run_callFunc_extern Tryz.func67 (by kernel_rfl) (by kernel_rfl) (by kernel_rfl) (e := Extern.SlicesOverlaps.overlaps #[24, 24] #[4]) (by kernel_rfl),
    Lib.run_overlaps_apart w 24 4 41 Tryz.underlying24 4 (fun _ => Tryz.sizeOf41 _) ⟨vb, 0, none⟩ ⟨g, o, none⟩ 1 1 lb cb hne 41 41 4 cur.length (by simp [World.shape?, hv]) (by simp [World.shape?, hg]) hpos (by simp [World.frozen?, hv]) (by simp [World.frozen?, hv])]
  rfl

set_option maxHeartbeats 4000000 in
set_option maxRecDepth 100000 in
/-- ahead of the end, and there is room -/
theorem insertH_room (base g cap n i vb : Nat) (cur : List Value) (fl : List Value) (v0 v1 v2 v3 : Value) (w : World) (hi : i < n) (hn : n ≤ 3000) (hg : w.heap[g]? = some (.cells cur.toArray 41 (0, 0))) (hroom : n + 1 ≤ cap) (hcm : cap ≤ maxLen) (hcs : cur.length = cap * 4)
    (htake : cur.take (n * 4) = fl) (hlc : fl.length = n * 4) (h1c : ∀ u ∈ fl, u.oneCell' = true) (h41 : ∀ u ∈ ([v0, v1, v2, v3] : List Value), u.oneCell' = true) (hb : base ≤ g) (hv : w.heap[vb]? = some (.cells #[v0, v1, v2, v3] 41 (0, 0))) (hne : vb ≠ g) :
    Calls Tryz.prog 43 #[.slice (some ⟨g, 0, none⟩) n cap, .int .i64 i, .slice (some ⟨vb, 0, none⟩) 1 1] w (InsQ base (n + 1) (fl.take (i * 4) ++ ([v0, v1, v2, v3] ++ fl.drop (i * 4))) (.slice (some ⟨g, 0, none⟩) n cap) w) := by
  have HOV : Hid (∀ o lb cb, (callFunc 67 #[.slice (some ⟨vb, 0, none⟩) 1 1, .slice (some ⟨g, o, none⟩) lb cb]).run Tryz.prog w = .ok (.value (.bool false)) w) := Lib.hid fun o lb cb => overlapsH_no w vb g o lb cb _ _ _ _ cur hg (by omega) hv hne
  have HG := Lib.hid hg
  have HV := Lib.hid hv
  have HT := Lib.hid htake
  have H1C := Lib.hid h1c
  have H41 := Lib.hid h41
  have HCS := Lib.hid hcs
  have HB := Lib.hid hb
  have HLC := Lib.hid hlc
  have s1 : Hid ((fl.drop (i * 4)).length = Nat.min (n + 1 - i) (n + 1 - (i + 1)) * 4) := Lib.hid (by
    rw [List.length_drop, hlc]
    show _ = min (n + 1 - i) (n + 1 - (i + 1)) * 4
    omega)
  have s2 : Hid (∀ j v, (fl.drop (i * 4))[j]? = some v → w.cell? ((⟨g, i * 4, none⟩ : Addr).add j) = some v) := Lib.hid (fun j v hj => by
    rw [add_off, cell_of_row w g (i * 4 + j) _ _ (0, 0) hg]
    rw [List.getElem?_drop, ← htake, List.getElem?_take] at hj
    split at hj
    · simpa using hj
    · cases hj)
  have s3 : Hid ((i + 1) * 4 + (fl.drop (i * 4)).length ≤ cur.length) := Lib.hid (by rw [List.length_drop, hlc, hcs]; omega)
  have s4 : Hid (∀ u ∈ fl.drop (i * 4), u.oneCell' = true) := Lib.hid (fun u hu => h1c u (List.mem_of_mem_drop hu))
  clear hg hv htake h1c h41 hcs hb hlc
  unfold maxLen at hcm
  have hb2 : ¬ (cap = i + 1) := by omega
  have hb4 : ¬ (cap = i) := by omega
  go_enter Tryz.func43, Tryz.ntmps43
  go_wp2_with (simp only [HOV.out])
  have hw1 : IntKind.i64.wrap ((i : Int) + 1) = (i : Int) + 1 := IntWalk.i64_in _ (by omega)
  have hb1 : (0 : Int) ≤ (i : Int) + 1 := by omega
  have htn : ((i : Int) + 1).toNat = i + 1 := by omega
  have hin : i ≤ n := by omega
  have hb3 : (i : Int) ≤ (n : Int) + 1 := by omega
  go_region_law (refine step_copy_rowN rfl (.tmp 73) (.tmp 76) 24 24 rfl 41 Tryz.underlying24 4 held_size g ((i + 1) * 4) (n + 1 - (i + 1)) (cap - (i + 1)) ⟨g, i * 4, none⟩ (n + 1 - i) (cap - i) (by simp [Act.eval, Act.put]) (by simp [Act.eval, Act.put]) cur 41 HG.out (fl.drop (i * 4)) s1.out s2.out s3.out s4.out base w ⟨rfl, rfl, rfl, Nat.le_refl _, fun _ _ => rfl⟩ HB.out _ rfl ?_; intro w4 H4)
  clear hw1 hb1 htn hb3
  obtain ⟨L1, hL1⟩ : ∃ L1, splice cur ((i + 1) * 4) (fl.drop (i * 4)) = L1 := ⟨_, rfl⟩
  have HL1 := Lib.hid hL1
  rw [hL1] at H4
  clear hL1
  have r1 : Hid (([v0, v1, v2, v3] : List Value).length = Nat.min 1 (n + 1 - i) * 4) := Lib.hid (by
    show 4 = min 1 (n + 1 - i) * 4
    omega)
  have r2 : Hid (∀ j v, ([v0, v1, v2, v3] : List Value)[j]? = some v → w4.cell? ((⟨vb, 0, none⟩ : Addr).add j) = some v) := Lib.hid (fun j v hj => by
    exact four_at ((H4.out.other vb hne).trans HV.out) j v hj)
  have r3 : Hid (i * 4 + ([v0, v1, v2, v3] : List Value).length ≤ L1.length) := Lib.hid (by
    have := s3.out
    rw [← HL1.out, length_splice _ _ _ s3.out, HCS.out]
    show i * 4 + 4 ≤ _
    omega)
  have r4 : Hid (∀ u ∈ ([v0, v1, v2, v3] : List Value), u.oneCell' = true) := H41
  go_wp2_with (with_reducible refine wpList_copy_rowN rfl (.tmp 80) (.tmp 81) 24 24 rfl 41 Tryz.underlying24 4 held_size g (i * 4) (n + 1 - i) (cap - i) ⟨vb, 0, none⟩ 1 1 rfl rfl L1 41 H4.out.row [v0, v1, v2, v3] r1.out r2.out r3.out r4.out base w H4.out.below HB.out _ rfl ?_; intro w5 H5; refine Hid.out ?_)
  refine Lib.hid ?_
  go_wp2
  go_ret
  have hlc := HLC.out
  refine ⟨_, rfl, ⟨by simp only [List.length_append, List.length_cons, List.length_take, List.length_drop, hlc]; omega, .inr ⟨g, cap, _, rfl, HB.out, H5.out.row, hroom, by unfold maxLen; omega, ?_, ?_⟩⟩, H5.out.below, ⟨fun b _ hne => (H5.out.other b (fun e => hne (by rw [e]; rfl))).trans (H4.out.other b (fun e => hne (by rw [e]; rfl))), by rw [H5.out.size, H4.out.size]; exact Nat.le_refl _, .inl rfl⟩⟩
  · have h3 := r3.out
    have h4 := s3.out
    rw [← HL1.out] at h3 ⊢
    rw [List.size_toArray, length_splice _ _ _ h3, length_splice _ _ _ h4, HCS.out]
  · have e1 : (i + 1) * 4 = i * 4 + ([v0, v1, v2, v3] : List Value).length := by simp; omega
    have e2 : (n + 1) * 4 = fl.length + ([v0, v1, v2, v3] : List Value).length := by rw [hlc]; simp; omega
    rw [← HL1.out, e1, e2, List.toList_toArray, splice_shift (by rw [hlc]; exact HT.out) (by omega) (by rw [hlc, HCS.out]; simp; omega)]
    rfl

set_option maxHeartbeats 4000000 in
set_option maxRecDepth 100000 in
/-- ahead of the end, and there is no room: a new row -/
theorem insertH_grow (base g n i vb : Nat) (fl : List Value) (v0 v1 v2 v3 : Value) (w : World) (hi : i < n) (hn : n ≤ 3000) (hg : w.heap[g]? = some (.cells fl.toArray 41 (0, 0)))
    (hlc : fl.length = n * 4) (h1c : ∀ u ∈ fl, u.oneCell' = true) (h41 : ∀ u ∈ ([v0, v1, v2, v3] : List Value), u.oneCell' = true) (hb : base ≤ g) (hv : w.heap[vb]? = some (.cells #[v0, v1, v2, v3] 41 (0, 0))) :
    Calls Tryz.prog 43 #[.slice (some ⟨g, 0, none⟩) n n, .int .i64 i, .slice (some ⟨vb, 0, none⟩) 1 1] w (InsQ base (n + 1) (fl.take (i * 4) ++ ([v0, v1, v2, v3] ++ fl.drop (i * 4))) (.slice (some ⟨g, 0, none⟩) n n) w) := by
  obtain ⟨i0, hi0, hz0, hz1, hz2⟩ : ∃ i, Tryz.prog.info? 41 = some i ∧ i.zero = some (.agg #[.int .i64 0, .slice none 0 0, .int .i64 0, .int .i64 0]) ∧ i.size = 4 ∧ i.bytes = 48 := info_parts held_info
  have hgw : g < w.heap.size := (Array.getElem?_eq_some_iff.1 hg).1
  have hvw : vb < w.heap.size := (Array.getElem?_eq_some_iff.1 hv).1
  have hcell : ∀ j v, fl[j]? = some v → w.cell? ⟨g, j, none⟩ = some v := fun j v hj => by
    rw [cell_of_row w g j _ _ (0, 0) hg]
    simpa using hj
  have hold : (Builtin.firstCells i0.size i (.slice (some ⟨g, 0, none⟩) i n)).run Tryz.prog w.drew = .ok (fl.take (i * 4)).toArray w.drew := by
    rw [hz1]
    exact run_firstCells_some w.drew 4 i ⟨g, 0, none⟩ i n (fl.take (i * 4)) (by rw [List.length_take]; omega) (fun j v hj => by
      rw [add_off, Nat.zero_add]
      rw [List.getElem?_take] at hj
      split at hj
      · exact hcell j v hj
      · cases hj)
  obtain ⟨G, hG⟩ : ∃ G, grownCap w (n + 1) n 41 = G := ⟨_, rfl⟩
  have hGn : n + 1 ≤ G := by rw [← hG]; exact grownCap_ge w _ _ _
  have hGm : G ≤ maxLen := by rw [← hG]; exact grownCap_le_maxLen w (n + 1) n 41 (by unfold maxLen; omega)
  obtain ⟨R, hR⟩ : ∃ R : List Value, ((fl.take (i * 4)).toArray ++ Builtin.zeroCells (Value.agg #[.int .i64 0, .slice none 0 0, .int .i64 0, .int .i64 0]).cells (n + 1 - i) ++ Builtin.zeroCells (Value.agg #[.int .i64 0, .slice none 0 0, .int .i64 0, .int .i64 0]).cells (G - (n + 1))).toList = R := ⟨_, rfl⟩
  have hRl : R.length = G * 4 := by
    rw [← hR, Array.length_toList, Array.size_append, Array.size_append, size_zeroCells, size_zeroCells]
    show (fl.take (i * 4)).toArray.size + (n + 1 - i) * 4 + (G - (n + 1)) * 4 = _
    rw [List.size_toArray, List.length_take]
    omega
  have hRt : R.take (i * 4) = fl.take (i * 4) := by
    rw [← hR, Array.toList_append, Array.toList_append, List.append_assoc, List.take_append_of_le_length (by simp; omega), List.take_of_length_le (by simp; omega)]
  obtain ⟨W1, hW1⟩ : ∃ W1, W1 = w.drew.alloc (.cells R.toArray 41) := ⟨_, rfl⟩
  have HRZ : Hid (∀ ty, (Builtin.append_ #[24, 3] ty #[.slice (some ⟨g, 0, none⟩) i n, .int .i64 ((n : Int) + 1 - (i : Int))]).run Tryz.prog w = .ok (.slice (some ⟨w.heap.size, 0, none⟩) (n + 1) G) W1) := Lib.hid (fun ty => by
    have h := Lib.run_append_grow_zeros w 24 3 ty 41 i0 _ .i64 .i64 Tryz.underlying24 Tryz.underlying3 hi0 hz0 (some ⟨g, 0, none⟩) i n (fl.take (i * 4)) hold (n + 1 - i) (by omega) (by rw [hz1]; omega) (by omega) (by omega) (by rw [hz2]; omega) (by rw [hz2, show i + (n + 1 - i) = n + 1 by omega]; exact growslice_fits (by omega) (by omega))
    rw [show i + (n + 1 - i) = n + 1 by omega, hG] at h
    rw [show ((n : Int) + 1 - (i : Int)) = ((n + 1 - i : Nat) : Int) by omega, h, hW1, ← hR])
  have HR1 : Hid (W1.heap[w.heap.size]? = some (.cells R.toArray 41 (0, 0))) := Lib.hid (by rw [hW1]; exact heap_alloc_new w.drew _)
  have HB1 : Hid (Below w.heap.size w W1) := Lib.hid (by rw [hW1]; exact (⟨rfl, rfl, rfl, Nat.le_refl _, fun _ _ => rfl⟩ : Below w.heap.size w w.drew).alloc (Nat.le_refl _) _)
  have HC := Lib.hid hcell
  have HV := Lib.hid hv
  have H1C := Lib.hid h1c
  have H41 := Lib.hid h41
  have HLC := Lib.hid hlc
  have HB := Lib.hid hb
  have HGW : Hid (g < w.heap.size ∧ vb < w.heap.size) := Lib.hid ⟨hgw, hvw⟩
  have HRL := Lib.hid hRl
  have HRT := Lib.hid hRt
  obtain ⟨N, hN⟩ : ∃ N, w.heap.size = N := ⟨_, rfl⟩
  have HN := Lib.hid hN
  rw [hN] at HRZ HR1 HB1 HGW
  clear hN hg hv h1c h41 hb hlc hcell hold hG hR hRl hRt hW1 hgw hvw hi0 hz0 hz1 hz2
  unfold maxLen at hGm
  have r1 : Hid (([v0, v1, v2, v3] : List Value).length = Nat.min 1 (n + 1 - i) * 4) := Lib.hid (by
    show 4 = min 1 (n + 1 - i) * 4
    omega)
  have r2 : Hid (∀ j v, ([v0, v1, v2, v3] : List Value)[j]? = some v → W1.cell? ((⟨vb, 0, none⟩ : Addr).add j) = some v) := Lib.hid (fun j v hj => by
    exact four_at ((HB1.out.block vb HGW.out.2).trans HV.out) j v hj)
  have r3 : Hid (i * 4 + ([v0, v1, v2, v3] : List Value).length ≤ R.length) := Lib.hid (by
    rw [HRL.out]
    show i * 4 + 4 ≤ _
    omega)
  have r4 : Hid (∀ u ∈ ([v0, v1, v2, v3] : List Value), u.oneCell' = true) := H41
  have hBN : base ≤ N := by have := HB.out; have := HGW.out; omega
  have HBN := Lib.hid hBN
  clear hBN
  have hc1 : ¬ (n = i) := by omega
  have hc2 : ¬ (G = i) := by omega
  have hc3 : ¬ (G = i + 1) := by omega
  go_enter Tryz.func43, Tryz.ntmps43
  go_wp2_with (at_builtin; refine Lib.wpList_append_run _ rfl _ _ _ _ rfl _ _ rfl rfl _ _ (HRZ.out _) ?_; refine Hid.out ?_)
  refine Lib.hid ?_
  go_wp2_with (with_reducible refine wpList_copy_rowN rfl (.tmp 43) (.tmp 44) 24 24 rfl 41 Tryz.underlying24 4 held_size N (i * 4) (n + 1 - i) (G - i) ⟨vb, 0, none⟩ 1 1 rfl rfl R 41 HR1.out [v0, v1, v2, v3] r1.out r2.out r3.out r4.out base w (HB1.out.mono HBN.out) HBN.out _ rfl ?_; intro w4 H4; refine Hid.out ?_)
  refine Lib.hid ?_
  go_wp2
  have q1 : Hid ((fl.drop (i * 4)).length = Nat.min (n - i) (n + 1 - (i + 1)) * 4) := Lib.hid (by
    rw [List.length_drop, HLC.out]
    show _ = min (n - i) (n + 1 - (i + 1)) * 4
    omega)
  have q2 : Hid (∀ j v, (fl.drop (i * 4))[j]? = some v → w4.cell? ((⟨g, i * 4, none⟩ : Addr).add j) = some v) := Lib.hid (fun j v hj => by
    have h4 : w4.heap[g]? = w.heap[g]? := (H4.out.other g (by have := HGW.out; omega)).trans (HB1.out.block g HGW.out.1)
    rw [add_off]
    have h5 : w4.cell? ⟨g, i * 4 + j, none⟩ = w.cell? ⟨g, i * 4 + j, none⟩ := World.cell?_of_block h4
    rw [h5]
    exact HC.out (i * 4 + j) v (by rwa [List.getElem?_drop] at hj))
  obtain ⟨L1, hL1⟩ : ∃ L1, splice R (i * 4) ([v0, v1, v2, v3] : List Value) = L1 := ⟨_, rfl⟩
  have HL1 := Lib.hid hL1
  rw [hL1] at H4
  clear hL1
  have q3 : Hid ((i + 1) * 4 + (fl.drop (i * 4)).length ≤ L1.length) := Lib.hid (by
    rw [← HL1.out, length_splice _ _ _ r3.out, HRL.out, List.length_drop, HLC.out]
    omega)
  have q4 : Hid (∀ u ∈ fl.drop (i * 4), u.oneCell' = true) := Lib.hid (fun u hu => H1C.out u (List.mem_of_mem_drop hu))
  have hw1 : IntKind.i64.wrap ((i : Int) + 1) = (i : Int) + 1 := IntWalk.i64_in _ (by omega)
  have hb1 : (0 : Int) ≤ (i : Int) + 1 := by omega
  have htn : ((i : Int) + 1).toNat = i + 1 := by omega
  have hin : i ≤ n := by omega
  have hb3 : (i : Int) ≤ (n : Int) + 1 := by omega
  have hb4 : (i : Int) ≤ (n : Int) := by omega
  go_region_law (refine step_copy_rowN rfl (.tmp 50) (.tmp 53) 24 24 rfl 41 Tryz.underlying24 4 held_size N ((i + 1) * 4) (n + 1 - (i + 1)) (G - (i + 1)) ⟨g, i * 4, none⟩ (n - i) (n - i) (by simp [Act.eval, Act.put]) (by simp [Act.eval, Act.put]) L1 41 H4.out.row (fl.drop (i * 4)) q1.out q2.out q3.out q4.out base w (H4.out.below.trans ⟨rfl, rfl, rfl, Nat.le_refl _, fun _ _ => rfl⟩) HBN.out _ rfl ?_; intro w5 H5)
  clear hw1 hb1 htn hb3 hb4
  go_wp2
  go_ret
  refine ⟨_, rfl, ⟨by simp only [List.length_append, List.length_cons, List.length_take, List.length_drop, HLC.out]; omega, .inr ⟨N, G, _, rfl, HBN.out, H5.out.row, hGn, by unfold maxLen; omega, ?_, ?_⟩⟩, H5.out.below, ⟨fun b hb _ => ((H5.out.other b (by have := HN.out; omega)).trans (H4.out.other b (by have := HN.out; omega))).trans (HB1.out.block b (by have := HN.out; omega)), by rw [H5.out.size]; show _ ≤ w4.heap.size; rw [H4.out.size]; exact HB1.out.size, .inr fun b hb => by
    have hb' : N = b := by simpa [Value.ownBlock] using hb
    have := HN.out
    omega⟩⟩
  · have h3 := q3.out
    have h4 := r3.out
    rw [← HL1.out] at h3 ⊢
    rw [List.size_toArray, length_splice _ _ _ h3, length_splice _ _ _ h4, HRL.out]
  · have ea : (fl.take (i * 4)).length = i * 4 := by rw [List.length_take, HLC.out]; omega
    have e0 : R.take (fl.take (i * 4)).length = fl.take (i * 4) := by rw [ea]; exact HRT.out
    have ed : (fl.drop (i * 4)).length = n * 4 - i * 4 := by rw [List.length_drop, HLC.out]
    have h := splice_fill (v := ([v0, v1, v2, v3] : List Value)) (d := fl.drop (i * 4)) e0 (by rw [ea, ed, HRL.out]; simp; omega)
    rw [ea, HL1.out] at h
    have e1 : (i + 1) * 4 = i * 4 + ([v0, v1, v2, v3] : List Value).length := by simp; omega
    have e2 : (n + 1) * 4 = i * 4 + ([v0, v1, v2, v3] : List Value).length + (fl.drop (i * 4)).length := by rw [ed]; simp; omega
    rw [e1, e2, List.toList_toArray, h]
    rfl

/-- slices.Insert of one holding into a row of one's own -/
theorem insertH_any (base i vb n : Nat) (A : Option Addr) (c : Nat) (fl : List Value) (v0 v1 v2 v3 : Value) (w : World) (h0 : 0 < n) (hi : i ≤ n) (hn : n ≤ 3000) (hown : w.ownsRow base 41 4 (.slice A n c) n fl) (h1c : ∀ u ∈ fl, u.oneCell' = true)
    (hv : w.heap[vb]? = some (.cells #[v0, v1, v2, v3] 41 (0, 0))) (h41 : ∀ u ∈ ([v0, v1, v2, v3] : List Value), u.oneCell' = true) (hne : ∀ g, A = some ⟨g, 0, none⟩ → vb ≠ g) :
    Calls Tryz.prog 43 #[.slice A n c, .int .i64 i, .slice (some ⟨vb, 0, none⟩) 1 1] w (InsQ base (n + 1) (fl.take (i * 4) ++ ([v0, v1, v2, v3] ++ fl.drop (i * 4))) (.slice A n c) w) := by
  have hlc : fl.length = n * 4 := hown.1
  rcases id hown.2 with ⟨_, h⟩ | ⟨g, cap, cur, e, hb, hg, hnc, hcm, hcs, htake⟩
  · omega
  · injection e with e1 e2 e3
    subst e1 e3
    by_cases hin : i = n
    · have e4 : fl.take (i * 4) ++ ([v0, v1, v2, v3] ++ fl.drop (i * 4)) = fl ++ [v0, v1, v2, v3] := by rw [hin, ← hlc, List.take_length, List.drop_length, List.append_nil]
      rw [e4, hin]
      exact insertH_end hn hown hv h41
    · have hg' : w.heap[g]? = some (.cells cur.toList.toArray 41 (0, 0)) := by simpa using hg
      by_cases hroom : n + 1 ≤ c
      · exact insertH_room base g c n i vb cur.toList fl v0 v1 v2 v3 w (by omega) hn hg' hroom hcm (by simpa using hcs) htake hlc h1c h41 hb hv (hne g rfl)
      · obtain rfl : c = n := by omega
        have e5 : cur.toList = fl := by rw [← htake, List.take_of_length_le (by simp; omega)]
        rw [e5] at hg'
        exact insertH_grow base g c i vb fl v0 v1 v2 v3 w (by omega) hn hg' hlc h1c h41 hb hv

end Go.Proofs.YtchogijdkagiiaaGreatDoor

namespace Go.Proofs.YtchogijdkagiiaaGreatDoor
open Go.RowKit

end Go.Proofs.YtchogijdkagiiaaGreatDoor

namespace Go.Proofs.YtchogijdkagiiaaGreatDoor

def NoClash (l : Tb) : Prop := l.Pairwise fun a b => clashH a b = false
instance (l : Tb) : Decidable (NoClash l) := by unfold NoClash; infer_instance
def twiceB (l : Tb) : Bool := !decide (NoClash l)
theorem noClash_perm {a b : Tb} (h : a.Perm b) : NoClash a ↔ NoClash b := h.pairwise_iff (fun {x y} h => by rw [clash_comm]; exact h)
/-- what has been gone through: the first k holdings, and j things of the next one -/
def Seen (m : Tb) (k j : Nat) (g : Hd) (n : Int) : Prop := (g ∈ m.take k ∧ n ∈ g.things) ∨ (k < m.length ∧ g = m.getD k hd0 ∧ n ∈ g.things.take j)
structure Till (m : Tb) (k j : Nat) (t : Nat → Int) : Prop where
  up : ∀ g n, Seen m k j g n → g.to ≤ t n.toNat
  src : ∀ n : Nat, t n = 0 ∨ ∃ g, Seen m k j g (n : Int) ∧ t n = g.to
  ok : NoClash (m.take k)
  now : ∀ g ∈ m.take k, ∀ n ∈ (m.getD k hd0).things.take j, n ∈ g.things → meetsZ g.frm g.to (m.getD k hd0).frm (m.getD k hd0).to = false
theorem getD_at {m : Tb} {k : Nat} (hk : k < m.length) : m.getD k hd0 = m[k] := by rw [List.getD, List.getElem?_eq_getElem hk]; rfl
theorem z_at {l : List Int} {j : Nat} (hj : j < l.length) : l.getD j 0 = l[j] := by rw [List.getD, List.getElem?_eq_getElem hj]; rfl
theorem z_mem {l : List Int} {j : Nat} (hj : j < l.length) : l.getD j 0 ∈ l := by rw [z_at hj]; exact List.getElem_mem hj
theorem till_zero (m : Tb) : Till m 0 0 (fun _ => 0) :=
  ⟨fun g n h => by rcases h with ⟨h, _⟩ | ⟨_, _, h⟩ <;> simp at h, fun _ => .inl rfl, by simp [NoClash], fun g h => by simp at h⟩
section
variable {m : Tb} {k j : Nat} {t : Nat → Int}
/-- a thing that is still held when the next one begins is held twice -/
theorem Till.bad (h : Till m k j t) (hm : ∀ x ∈ m, MayH x) (hs : m.Pairwise fun a b => a.frm ≤ b.frm) (hk : k < m.length) (hj : j < (m.getD k hd0).things.length) (hlt : (m.getD k hd0).frm < t ((m.getD k hd0).things.getD j 0).toNat) : ¬ NoClash m := by
  intro hc
  have hx := hm _ (List.getElem_mem hk)
  rw [← getD_at hk] at hx
  have hn : (m.getD k hd0).things.getD j 0 ∈ (m.getD k hd0).things := z_mem hj
  have hn0 := right_mem hx.2.1 _ hn
  rcases h.src ((m.getD k hd0).things.getD j 0).toNat with h0 | ⟨g, hg, ht⟩
  · have := hx.2.2.1; omega
  · rw [Int.toNat_of_nonneg hn0.1] at hg
    rcases hg with ⟨hg, hgn⟩ | ⟨_, hg, hgn⟩
    · obtain ⟨i, hi, rfl⟩ := List.getElem_of_mem hg
      have hil : i < m.length := by rw [List.length_take] at hi; omega
      rw [List.getElem_take] at *
      have hik : i < k := by rw [List.length_take] at hi; omega
      have h1 := List.pairwise_iff_getElem.1 hc i k hil hk hik
      have h2 := List.pairwise_iff_getElem.1 hs i k hil hk hik
      have hgm := hm _ (List.getElem_mem hil)
      rw [getD_at hk] at *
      have hcl : clashH m[i] m[k] = true := by
        unfold clashH
        rw [Bool.and_eq_true]
        refine ⟨?_, touch_iff.2 ⟨_, hgn, hn⟩⟩
        unfold meetsZ
        rw [decide_eq_true_eq]
        have a1 := hgm.2.2.2.1
        have a2 := hx.2.2.2.1
        omega
      rw [hcl] at h1
      cases h1
    · subst hg
      obtain ⟨i, hi, e⟩ := List.getElem_of_mem hgn
      rw [List.length_take] at hi
      rw [List.getElem_take] at e
      have hnd := right_nodup hx.2.1
      have hji : i < j := by omega
      rw [z_at hj] at e
      exact List.pairwise_iff_getElem.1 hnd i j (by omega) hj hji e
/-- a thing more -/
theorem Till.next (h : Till m k j t) (hm : ∀ x ∈ m, MayH x) (hk : k < m.length) (hj : j < (m.getD k hd0).things.length) (hge : ¬ (m.getD k hd0).frm < t ((m.getD k hd0).things.getD j 0).toNat) :
    Till m k (j + 1) (fun i => if i = ((m.getD k hd0).things.getD j 0).toNat then (m.getD k hd0).to else t i) := by
  have hx := hm _ (List.getElem_mem hk)
  rw [← getD_at hk] at hx
  obtain ⟨x, hxe⟩ : ∃ x, m.getD k hd0 = x := ⟨_, rfl⟩
  have hT : x.things.take (j + 1) = x.things.take j ++ [x.things.getD j 0] := by
    rw [hxe] at hj
    rw [List.take_succ_eq_append_getElem hj, z_at hj]
  have hn : x.things.getD j 0 ∈ x.things := by rw [hxe] at hj; exact z_mem hj
  have hS : ∀ g n, Seen m k (j + 1) g n ↔ Seen m k j g n ∨ (g = x ∧ n = x.things.getD j 0) := by
    intro g n
    unfold Seen
    constructor
    · rintro (h1 | ⟨_, h2, h3⟩)
      · exact .inl (.inl h1)
      · rw [hxe] at h2
        subst h2
        rw [hT, List.mem_append, List.mem_singleton] at h3
        rcases h3 with h3 | h3
        · exact .inl (.inr ⟨hk, hxe.symm, h3⟩)
        · exact .inr ⟨rfl, h3⟩
    · rintro ((h1 | ⟨_, h2, h3⟩) | ⟨h1, h2⟩)
      · exact .inl h1
      · refine .inr ⟨hk, h2, ?_⟩
        rw [hxe] at h2
        subst h2
        rw [hT]
        exact List.mem_append_left _ h3
      · subst h1
        refine .inr ⟨hk, hxe.symm, ?_⟩
        rw [hT, h2]
        exact List.mem_append_right _ (List.mem_singleton.2 rfl)
  have hpos : ∀ g n, Seen m k j g n → 0 ≤ n := by
    rintro g n (⟨h1, h2⟩ | ⟨_, h1, h2⟩)
    · exact (right_mem (hm g (List.mem_of_mem_take h1)).2.1 n h2).1
    · rw [h1, hxe] at h2
      rw [hxe] at hx
      exact (right_mem hx.2.1 n (List.mem_of_mem_take h2)).1
  rw [hxe] at hx hge ⊢
  have hn0 := (right_mem hx.2.1 _ hn).1
  refine ⟨fun g n hg => ?_, fun n => ?_, h.ok, fun g hg n hnm hgn => ?_⟩
  · show g.to ≤ if n.toNat = _ then x.to else t n.toNat
    rcases (hS g n).1 hg with h1 | ⟨h1, h2⟩
    · have h3 := h.up g n h1
      split
      · rename_i e
        rw [e] at h3
        have := hx.2.2.2.1
        omega
      · exact h3
    · subst h1 h2
      rw [if_pos rfl]
      exact Int.le_refl _
  · show (if n = _ then x.to else t n) = 0 ∨ ∃ g, Seen m k (j + 1) g (n : Int) ∧ (if n = _ then x.to else t n) = g.to
    split
    · rename_i e
      refine .inr ⟨x, (hS x n).2 (.inr ⟨rfl, ?_⟩), rfl⟩
      rw [e, Int.toNat_of_nonneg hn0]
    · rcases h.src n with h1 | ⟨g, h1, h2⟩
      · exact .inl h1
      · exact .inr ⟨g, (hS g n).2 (.inl h1), h2⟩
  · rw [hxe] at hnm ⊢
    rw [hT, List.mem_append, List.mem_singleton] at hnm
    rcases hnm with h1 | h1
    · have := h.now g hg n (by rw [hxe]; exact h1) hgn
      rwa [hxe] at this
    · have h2 := h.up g n (.inl ⟨hg, hgn⟩)
      rw [h1] at h2
      unfold meetsZ
      rw [decide_eq_false_iff_not]
      omega
/-- a holding more -/
theorem Till.step (h : Till m k j t) (hk : k < m.length) (hj : (m.getD k hd0).things.length ≤ j) : Till m (k + 1) 0 t := by
  have e := getD_at hk
  have hS : ∀ g n, Seen m (k + 1) 0 g n ↔ Seen m k j g n := by
    intro g n
    unfold Seen
    rw [List.take_succ_eq_append_getElem hk, ← e]
    constructor
    · rintro (⟨h1, h2⟩ | ⟨_, _, h3⟩)
      · rcases List.mem_append.1 h1 with h1 | h1
        · exact .inl ⟨h1, h2⟩
        · rw [List.mem_singleton] at h1
          refine .inr ⟨hk, h1, ?_⟩
          rw [List.take_of_length_le (by rw [h1]; exact hj)]
          exact h2
      · simp at h3
    · rintro (⟨h1, h2⟩ | ⟨_, h1, h3⟩)
      · exact .inl ⟨List.mem_append_left _ h1, h2⟩
      · exact .inl ⟨List.mem_append_right _ (List.mem_singleton.2 h1), List.mem_of_mem_take h3⟩
  refine ⟨fun g n hg => h.up g n ((hS g n).1 hg), fun n => (h.src n).imp id fun ⟨g, h1, h2⟩ => ⟨g, (hS g n).2 h1, h2⟩, ?_, fun g _ n hn => by simp at hn⟩
  unfold NoClash
  rw [List.take_succ_eq_append_getElem hk, ← e, List.pairwise_append]
  refine ⟨h.ok, List.pairwise_singleton _ _, fun g hg x hx => ?_⟩
  rw [List.mem_singleton] at hx
  subst hx
  refine Bool.eq_false_iff.2 fun hc => ?_
  unfold clashH at hc
  rw [Bool.and_eq_true] at hc
  obtain ⟨n, h1, h2⟩ := touch_iff.1 hc.2
  have := h.now g hg n (by rw [List.take_of_length_le hj]; exact h2) h1
  rw [this] at hc
  cases hc.1
theorem Till.all (h : Till m k 0 t) (hk : m.length ≤ k) : NoClash m := by
  have := h.ok
  rwa [List.take_of_length_le hk] at this
end
/-- may each holding be, and rise the numbers -/
structure RiseH (l : Tb) (i : Nat) : Prop where
  may : ∀ x ∈ l.take i, MayH x
  ids : (l.take i).Pairwise fun a b => a.id < b.id
theorem rise_zero (l : Tb) : RiseH l 0 := ⟨fun x h => by simp at h, by simp⟩
theorem RiseH.next {l : Tb} {i : Nat} (h : RiseH l i) (hi : i < l.length) (h1 : MayH (l.getD i hd0)) (h2 : 0 < i → (l.getD (i - 1) hd0).id < (l.getD i hd0).id) : RiseH l (i + 1) := by
  rw [getD_at hi] at h1 h2
  refine ⟨fun x hx => ?_, ?_⟩
  · rw [List.take_succ_eq_append_getElem hi, List.mem_append, List.mem_singleton] at hx
    rcases hx with e | e
    · exact h.may x e
    · subst e; exact h1
  · rw [List.take_succ_eq_append_getElem hi, List.pairwise_append]
    refine ⟨h.ids, List.pairwise_singleton _ _, fun x hx y hy => ?_⟩
    rw [List.mem_singleton] at hy
    subst hy
    obtain ⟨q, hq, rfl⟩ := List.getElem_of_mem hx
    rw [List.length_take] at hq
    have h3 := h2 (by omega)
    rw [getD_at (show i - 1 < l.length by omega)] at h3
    by_cases e : q = i - 1
    · subst e; rw [List.getElem_take]; exact h3
    · have h4 := List.pairwise_iff_getElem.1 h.ids q (i - 1) (by rw [List.length_take]; omega) (by rw [List.length_take]; omega) (by omega)
      rw [List.getElem_take] at h4 ⊢
      rw [List.getElem_take] at h4
      omega
theorem RiseH.bad_may {l : Tb} {i : Nat} (hi : i < l.length) (h : mayH (l.getD i hd0) = false) : rightT l = false := by
  refine Bool.eq_false_iff.2 fun hr => ?_
  have := (rightT_is.1 hr).may _ (List.getElem_mem hi)
  rw [getD_at hi] at h
  exact absurd this (of_decide_eq_false h)
theorem RiseH.bad_id {l : Tb} {i : Nat} (hi : i < l.length) (h0 : 0 < i) (h : (l.getD i hd0).id ≤ (l.getD (i - 1) hd0).id) : rightT l = false := by
  refine Bool.eq_false_iff.2 fun hr => ?_
  have := List.pairwise_iff_getElem.1 (rightT_is.1 hr).row (i - 1) i (by omega) hi (by omega)
  rw [getD_at hi, getD_at (show i - 1 < l.length by omega)] at h
  have := this.1
  omega
theorem RiseH.end {l : Tb} (h : RiseH l l.length) (h256 : l.length ≤ 256) : rightT l = !twiceB l := by
  unfold twiceB
  rw [Bool.not_not, Bool.eq_iff_iff, rightT_is, decide_eq_true_eq]
  have e : l.take l.length = l := List.take_length
  have hm := h.may
  have hi := h.ids
  rw [e] at hm hi
  constructor
  · intro hr
    exact hr.row.imp fun h => h.2
  · intro hc
    exact ⟨h256, hm, (hi.and hc)⟩

end Go.Proofs.YtchogijdkagiiaaGreatDoor

namespace Go.Proofs.YtchogijdkagiiaaGreatDoor
open Go.RowKit

/-- one before the other: -1, 0, 1 -/
def hcmpZ (a b : Int) : Int := if a < b then -1 else if b < a then 1 else 0
theorem cmpZ_lt (a b : Int) : decide (hcmpZ a b < 0) = decide (a < b) := by
  unfold hcmpZ
  by_cases h1 : a < b
  · simp [h1]
  · by_cases h2 : b < a <;> simp [h1, h2]
theorem cmpZ_eq {a b : Int} : hcmpZ a b = 0 ↔ a = b := by
  unfold hcmpZ
  by_cases h1 : a < b
  · simp [h1]; omega
  · by_cases h2 : b < a <;> simp [h1, h2] <;> omega
theorem compare_any (a b : Int) (w : World) : Calls Tryz.prog 66 #[.int .i64 a, .int .i64 b] w fun e w' => e = .returned (.int .i64 (hcmpZ a b)) ∧ w' = w := by
  by_cases h1 : a < b
  · have e : Hid (hcmpZ a b = -1) := Lib.hid (by unfold hcmpZ; rw [if_pos h1])
    go_enter Tryz.func66, Tryz.ntmps66
    go_wp2
    go_ret
    exact ⟨by rw [e.out]; rfl, rfl⟩
  · by_cases h2 : b < a
    · have e : Hid (hcmpZ a b = 1) := Lib.hid (by unfold hcmpZ; rw [if_neg h1, if_pos h2])
      go_enter Tryz.func66, Tryz.ntmps66
      go_wp2
      go_ret
      exact ⟨by rw [e.out]; rfl, rfl⟩
    · have e : Hid (hcmpZ a b = 0) := Lib.hid (by unfold hcmpZ; rw [if_neg h1, if_neg h2])
      go_enter Tryz.func66, Tryz.ntmps66
      go_wp2
      go_ret
      exact ⟨by rw [e.out]; rfl, rfl⟩
set_option maxHeartbeats 1000000 in
theorem find1_any (x : Hd) (A : Option Addr) (m c : Nat) (id : Int) (W : World) : Calls Tryz.prog 65 #[.agg #[.int .i64 x.id, .slice A m c, .int .i64 x.frm, .int .i64 x.to], .int .i64 id] W fun e w' => e = .returned (.int .i64 (hcmpZ x.id id)) ∧ Below W.heap.size W w' := by
  have hcon := fun W' => compare_any x.id id W'
  obtain ⟨r, hr⟩ : ∃ r, hcmpZ x.id id = r := ⟨_, rfl⟩
  rw [hr] at hcon ⊢
  go_enter Tryz.func65, Tryz.ntmps65
  go_wp2_with (go_at_call 66; refine (hcon _).mono ?_; rintro e w' ⟨rfl, rfl⟩)
  go_ret
  exact ⟨rfl, (Below.refl _ _).alloc (Nat.le_refl _) _⟩

/-- where a number stands, or would stand -/
structure Stands (l : Tb) (id : Int) (K : Nat) : Prop where
  le : K ≤ l.length
  low : ∀ q, q < K → (l.getD q hd0).id < id
  high : ∀ q, K ≤ q → q < l.length → id ≤ (l.getD q hd0).id
def hereB (l : Tb) (id : Int) (K : Nat) : Bool := decide (K < l.length) && decide ((l.getD K hd0).id = id)

set_option maxHeartbeats 8000000 in
set_option maxRecDepth 100000 in
theorem binary_any (A : Option Addr) (n c : Nat) (l : Tb) (id : Int) (w : World) (hr : RT w w.heap.size A n l) (hn : n ≤ 1000) (hi : l.Pairwise fun a b => a.id < b.id) :
    Calls Tryz.prog 64 #[.slice A n c, .int .i64 id, .func (.func 65) #[] #[]] w fun e w' => (∃ K : Nat, e = .returned (.tuple #[.int .i64 K, .bool (hereB l id K)]) ∧ Stands l id K) ∧ Below w.heap.size w w' := by
  have HR := Lib.hid hr
  have HL := Lib.hid hr.len
  have HI : Hid (∀ q r, q < r → r < n → (l.getD q hd0).id < (l.getD r hd0).id) := Lib.hid (fun q r h1 h2 => by
    have h3 := List.pairwise_iff_getElem.1 hi q r (by rw [hr.len]; omega) (by rw [hr.len]; omega) h1
    rwa [← getD_at, ← getD_at] at h3)
  have eg : ∀ args w, (callFunc 65 args).run Tryz.prog w = .ok (.enter 65 args) w := Go.Proofs.enters_of Tryz.func65 (by kernel_rfl) rfl
  clear hr hi
  go_enter Tryz.func64, Tryz.ntmps64
  go_wp2
  go_loopg [9, 10] n (fun kx s5 s6 wr => ∃ (lo hi : Nat), s5 = .int .i64 lo ∧ s6 = .int .i64 hi ∧ lo ≤ hi ∧ hi ≤ n ∧ (∀ q, q < lo → (l.getD q hd0).id < id) ∧ (∀ q, hi ≤ q → q < n → id ≤ (l.getD q hd0).id) ∧ hi - lo ≤ kx ∧ Below w.heap.size w wr)
  case atStart => exact ⟨0, n, rfl, rfl, Nat.zero_le _, Nat.le_refl _, fun q h => absurd h (by omega), fun q h1 h2 => absurd h1 (by omega), by omega, Below.refl _ _⟩
  case round =>
    obtain ⟨lo, hi, rfl, rfl, hlh, hin, hlow, hhigh, hg, hbel⟩ := hrel
    have HLOW := Lib.hid hlow
    have HHIGH := Lib.hid hhigh
    have HB := Lib.hid hbel
    have HRw := Lib.hid (HR.out.next hbel)
    clear hlow hhigh hbel
    by_cases hlt : lo < hi
    · obtain ⟨h, hh⟩ : ∃ h : Nat, (lo + hi) / 2 = h := ⟨_, rfl⟩
      have hh1 : lo ≤ h ∧ h < hi := by omega
      have e1 : ((lo : Int) + (hi : Int)) / 2 = (h : Int) := by omega
      have hhn : h < n := by omega
      have hhz : (h : Int) < (n : Int) := by omega
      obtain ⟨b, off, A2, m2, c2, rfl, hbl, c0, c1', c2', c3', hx⟩ := HRw.out.one hhn
      obtain ⟨x, hxx⟩ : ∃ x, l.getD h hd0 = x := ⟨_, rfl⟩
      rw [hxx] at c0 c2' c3'
      have hcx := cmpZ_lt x.id id
      have HC := Lib.hid (fun W => find1_any x A2 m2 c2 id W)
      obtain ⟨r, hrr⟩ : ∃ r, hcmpZ x.id id = r := ⟨_, rfl⟩
      rw [hrr] at hcx
      have HC' : Hid (∀ W, Calls Tryz.prog 65 #[.agg #[.int .i64 x.id, .slice A2 m2 c2, .int .i64 x.frm, .int .i64 x.to], .int .i64 id] W fun e w' => e = .returned (.int .i64 r) ∧ Below W.heap.size W w') := Lib.hid (fun W => by have := HC.out W; rwa [hrr] at this)
      have HXX := Lib.hid hxx
      clear hx hbl hrr HC hxx hh
      by_cases hlo : x.id < id
      · rw [decide_eq_true hlo] at hcx
        have HN : Hid (∀ q, q < h + 1 → (l.getD q hd0).id < id) := Lib.hid (fun q hq => by
          by_cases e : q = h
          · subst e; rw [HXX.out]; exact hlo
          · have := HI.out q h (by omega) hhn
            rw [HXX.out] at this
            omega)
        clear hlo
        go_wp2_with fail
        refine (HC'.out _).mono ?_
        rintro e w5 ⟨rfl, hb⟩
        have HB5 := Lib.hid (HB.out.trans (hb.mono HB.out.size))
        clear hb c0 c1' c2' c3'
        go_wp2
        go_roundg (hi - (h + 1))
        case measure => omega
        case rel => exact ⟨h + 1, hi, by go_num, rfl, by omega, hin, HN.out, HHIGH.out, Nat.le_refl _, HB5.out⟩
      · rw [decide_eq_false hlo] at hcx
        have HN : Hid (∀ q, h ≤ q → q < n → id ≤ (l.getD q hd0).id) := Lib.hid (fun q hq hqn => by
          by_cases e : q = h
          · subst e; rw [HXX.out]; omega
          · have := HI.out h q (by omega) hqn
            rw [HXX.out] at this
            omega)
        clear hlo
        go_wp2_with fail
        refine (HC'.out _).mono ?_
        rintro e w5 ⟨rfl, hb⟩
        have HB5 := Lib.hid (HB.out.trans (hb.mono HB.out.size))
        clear hb c0 c1' c2' c3'
        go_wp2
        go_roundg (h - lo)
        case measure => omega
        case rel => exact ⟨lo, h, rfl, rfl, by omega, by omega, HLOW.out, HN.out, Nat.le_refl _, HB5.out⟩
    · obtain rfl : hi = lo := by omega
      have HST : Hid (Stands l id hi) := Lib.hid ⟨by rw [HL.out]; exact hin, HLOW.out, fun q h1 h2 => HHIGH.out q h1 (by rw [← HL.out]; exact h2)⟩
      by_cases hn2 : hi < n
      · have d1 : decide (hi < n) = true := decide_eq_true hn2
        obtain ⟨b, off, A2, m2, c2, rfl, hbl, c0, c1', c2', c3', hx⟩ := HRw.out.one hn2
        obtain ⟨x, hxx⟩ : ∃ x, l.getD hi hd0 = x := ⟨_, rfl⟩
        rw [hxx] at c0 c2' c3'
        have hcx : (hcmpZ x.id id == 0) = decide (x.id = id) := by
          by_cases e : x.id = id
          · rw [decide_eq_true e, cmpZ_eq.2 e]; rfl
          · rw [decide_eq_false e]; exact beq_eq_false_iff_ne.2 (fun h => e (cmpZ_eq.1 h))
        have HH : Hid (hereB l id hi = decide (x.id = id)) := Lib.hid (by unfold hereB; rw [HL.out, d1, hxx, Bool.true_and])
        have HC := Lib.hid (fun W => find1_any x A2 m2 c2 id W)
        obtain ⟨r, hrr⟩ : ∃ r, hcmpZ x.id id = r := ⟨_, rfl⟩
        rw [hrr] at hcx
        have HC' : Hid (∀ W, Calls Tryz.prog 65 #[.agg #[.int .i64 x.id, .slice A2 m2 c2, .int .i64 x.frm, .int .i64 x.to], .int .i64 id] W fun e w' => e = .returned (.int .i64 r) ∧ Below W.heap.size W w') := Lib.hid (fun W => by have := HC.out W; rwa [hrr] at this)
        obtain ⟨v, hv⟩ : ∃ v, decide (x.id = id) = v := ⟨_, rfl⟩
        rw [hv] at hcx HH
        clear hx hbl hrr HC hxx hv
        go_wp2_with fail
        refine (HC'.out _).mono ?_
        rintro e w5 ⟨rfl, hb⟩
        have HB5 := Lib.hid (HB.out.trans (hb.mono HB.out.size))
        clear hb c0 c1' c2' c3'
        go_wp2
        go_ret2
        exact ⟨⟨hi, by rw [HH.out]; rfl, HST.out⟩, HB5.out⟩
      · have d1 : decide (hi < n) = false := decide_eq_false hn2
        have HH : Hid (hereB l id hi = false) := Lib.hid (by unfold hereB; rw [HL.out, d1, Bool.false_and])
        go_wp2
        go_ret2
        exact ⟨⟨hi, by rw [HH.out]; rfl, HST.out⟩, HB.out⟩

set_option maxHeartbeats 1000000 in
theorem hfind_any (A : Option Addr) (n c : Nat) (l : Tb) (id : Int) (w : World) (hr : RT w w.heap.size A n l) (hn : n ≤ 1000) (hi : l.Pairwise fun a b => a.id < b.id) :
    Calls Tryz.prog 42 #[.slice A n c, .int .i64 id] w fun e w' => (∃ K : Nat, e = .returned (.tuple #[.int .i64 K, .bool (hereB l id K)]) ∧ Stands l id K) ∧ Below w.heap.size w w' := by
  have HC := Lib.hid (binary_any A n c l id w hr hn hi)
  clear hr hi
  go_enter Tryz.func42, Tryz.ntmps42
  go_wp2_with fail
  refine HC.out.mono ?_
  rintro e w1 ⟨⟨K, rfl, hK⟩, hb⟩
  have HK := Lib.hid hK
  have HB := Lib.hid hb
  clear hK hb
  go_wp2
  go_ret2
  exact ⟨⟨K, rfl, HK.out⟩, HB.out⟩

end Go.Proofs.YtchogijdkagiiaaGreatDoor

namespace Go.Proofs.YtchogijdkagiiaaGreatDoor
open Go.RowKit

section
variable {l : Tb} {id z : Int} {K : Nat} {h : Hd}
theorem ids_lt (hi : l.Pairwise fun a b => a.id < b.id) {q r : Nat} (h1 : q < r) (h2 : r < l.length) : (l.getD q hd0).id < (l.getD r hd0).id := by
  have h3 := List.pairwise_iff_getElem.1 hi q r (by omega) h2 h1
  rwa [← getD_at, ← getD_at] at h3
theorem here_has (hi : l.Pairwise fun a b => a.id < b.id) (hs : Stands l id K) : hereB l id K = hasT l id := by
  unfold hereB
  rw [Bool.eq_iff_iff, Bool.and_eq_true, decide_eq_true_eq, decide_eq_true_eq, has_iff_id]
  constructor
  · rintro ⟨h1, h2⟩
    exact ⟨_, List.getElem_mem h1, by rw [← getD_at h1]; exact h2⟩
  · rintro ⟨x, hx, e⟩
    obtain ⟨q, hq, rfl⟩ := List.getElem_of_mem hx
    rw [← getD_at hq] at e
    have h1 : K ≤ q := by
      rcases Nat.lt_or_ge q K with h' | h'
      · have := hs.low q h'; omega
      · exact h'
    have hK : K < l.length := by omega
    refine ⟨hK, ?_⟩
    rcases Nat.eq_or_lt_of_le h1 with e1 | e1
    · subst e1; exact e
    · have h2 := hs.high K (Nat.le_refl _) hK
      have h3 := ids_lt hi e1 hq
      omega
theorem take_low (hs : Stands l id K) : ∀ x ∈ l.take K, x.id < id := by
  intro x hx
  obtain ⟨q, hq, rfl⟩ := List.getElem_of_mem hx
  rw [List.length_take] at hq
  have := hs.low q (by omega)
  rw [getD_at (show q < l.length by omega)] at this
  rwa [List.getElem_take]
theorem drop_high (hs : Stands l id K) (hn : ∀ x ∈ l, x.id ≠ id) : ∀ x ∈ l.drop K, id < x.id := by
  intro x hx
  have hm := hn x (List.mem_of_mem_drop hx)
  obtain ⟨q, hq, rfl⟩ := List.getElem_of_mem hx
  rw [List.length_drop] at hq
  rw [List.getElem_drop] at hm ⊢
  have := hs.high (K + q) (by omega) (by omega)
  rw [getD_at (show K + q < l.length by omega)] at this
  omega
theorem ins_at (hs : Stands l h.id K) (hn : ∀ x ∈ l, x.id ≠ h.id) : insT l h = l.take K ++ h :: l.drop K := by
  unfold insT
  have hl := take_low hs
  have hd := drop_high hs hn
  conv => lhs; rw [← List.take_append_drop K l]
  rw [List.filter_append, List.filter_append]
  rw [List.filter_eq_self.2 (fun x hx => decide_eq_true (hl x hx)), List.filter_eq_nil_iff.2 (fun x hx => by have := hd x hx; rw [decide_eq_true_eq]; omega), List.append_nil,
    List.filter_eq_nil_iff.2 (fun x hx => by have := hl x hx; rw [decide_eq_true_eq]; omega), List.nil_append, List.filter_eq_self.2 (fun x hx => decide_eq_true (hd x hx))]
theorem here_facts (hh : hereB l id K = true) : K < l.length ∧ (l.getD K hd0).id = id := by
  unfold hereB at hh
  rw [Bool.and_eq_true, decide_eq_true_eq, decide_eq_true_eq] at hh
  exact hh
theorem get_at (hr : rightT l = true) (hh : hereB l id K = true) : getT l id = l.getD K hd0 := by
  obtain ⟨hK, e⟩ := here_facts hh
  rw [← e]
  exact get_is hr (by rw [getD_at hK]; exact List.getElem_mem hK)
end
section
variable {base : Nat} {w w6 w7 : World} {v v' : Value} {l l' : Tb} {n : Nat} {fl' : List Value}
/-- a row behind an Insert or a Delete, as a table -/
theorem ins_on (hb : Below w.heap.size w w6) (hq : w7.ownsRow w.heap.size 41 4 v' n fl') (h2 : Below w.heap.size w6 w7) (hk : Keeps w6 v w7 v') (hl : l'.length = n)
    (hE : ∀ j x, l'[j]? = some x → EH w6 (fun b => b < w6.heap.size ∧ v.ownBlock ≠ some b) x ((fl'.drop (j * 4)).take 4)) : ON EH 4 41 w v' l' w7 := by
  refine ⟨fl', by rw [hl]; exact hq, hb.trans h2, fun j x hx => eh_steady.keep (hE j x hx) (fun b hb => hk.block b hb.1 hb.2) (fun b hb => ⟨Nat.lt_of_lt_of_le hb.1 hk.size, fun e => ?_⟩)⟩
  rcases hk.own with h' | h'
  · exact hb.2 (h'.symm.trans e)
  · have := h' b e; omega
theorem take_flat {fl : List Value} {i j : Nat} (h : j < i) : ((fl.take (i * 4)).drop (j * 4)).take 4 = (fl.drop (j * 4)).take 4 := by
  rw [List.drop_take, List.take_take, Nat.min_eq_left (by omega)]
theorem ins_cells {fl : List Value} {v0 v1 v2 v3 : Value} {h : Hd} {K : Nat} {ok : Nat → Prop} (hfl : fl.length = l.length * 4) (hK : K ≤ l.length) (hE : ∀ j x, l[j]? = some x → EH w6 ok x ((fl.drop (j * 4)).take 4)) (hh : EH w6 ok h [v0, v1, v2, v3]) :
    ∀ j x, (l.take K ++ h :: l.drop K)[j]? = some x → EH w6 ok x (((fl.take (K * 4) ++ ([v0, v1, v2, v3] ++ fl.drop (K * 4))).drop (j * 4)).take 4) := by
  intro j x hx
  have hlt : (l.take K).length = K := by rw [List.length_take]; omega
  have hft : (fl.take (K * 4)).length = K * 4 := by rw [List.length_take, hfl]; omega
  rcases Nat.lt_trichotomy j K with hj | hj | hj
  · rw [List.getElem?_append_left (by omega), List.getElem?_take_of_lt hj] at hx
    have e : ((fl.take (K * 4) ++ ([v0, v1, v2, v3] ++ fl.drop (K * 4))).drop (j * 4)).take 4 = (fl.drop (j * 4)).take 4 := by
      rw [List.drop_append_of_le_length (by omega), List.take_append_of_le_length (by rw [List.length_drop]; omega), take_flat hj]
    rw [e]
    exact hE j x hx
  · subst hj
    rw [List.getElem?_append_right (by omega), hlt, Nat.sub_self] at hx
    have hx' : h = x := by simpa using hx
    subst hx'
    have e : ((fl.take (j * 4) ++ ([v0, v1, v2, v3] ++ fl.drop (j * 4))).drop (j * 4)).take 4 = [v0, v1, v2, v3] := by
      rw [List.drop_append_of_le_length (by omega), List.drop_of_length_le (by omega), List.nil_append]
      rfl
    rw [e]
    exact hh
  · rw [List.getElem?_append_right (by omega), hlt] at hx
    obtain ⟨d, rfl⟩ : ∃ d, j = K + 1 + d := ⟨j - (K + 1), by omega⟩
    rw [show K + 1 + d - K = d + 1 by omega, List.getElem?_cons_succ, List.getElem?_drop] at hx
    have e : ((fl.take (K * 4) ++ ([v0, v1, v2, v3] ++ fl.drop (K * 4))).drop ((K + 1 + d) * 4)).take 4 = (fl.drop ((K + d) * 4)).take 4 := by
      rw [List.drop_append, List.drop_of_length_le (by omega), List.nil_append, hft, List.drop_append, List.drop_of_length_le (by show 4 ≤ _; omega), List.nil_append, List.drop_drop]
      congr 2
      show K * 4 + ((K + 1 + d) * 4 - K * 4 - 4) = (K + d) * 4
      omega
    rw [e]
    exact hE (K + d) x hx
end

end Go.Proofs.YtchogijdkagiiaaGreatDoor

namespace Go.Proofs
open Go.Shelf
open Go.RowKit
def Tryz.sortHeld_ren : Go.Shelf.Ren := ⟨fun | 6 => 88 | 14 => 110 | 15 => 97 | 20 => 130 | 21 => 131 | 22 => 132 | 23 => 133 | 24 => 134 | 25 => 135 | 26 => 136 | 27 => 137 | 28 => 123 | 29 => 124 | 46 => 144 | 47 => 140 | 48 => 141 | 49 => 145 | 50 => 146 | 57 => 148 | n => n, fun | 0 => 0 | 3 => 3 | 4 => 4 | 5 => 5 | 9 => 9 | 22 => 24 | 24 => 41 | 25 => 112 | 39 => 103 | 45 => 134 | 46 => 135 | 50 => 59 | 53 => 142 | 55 => 67 | 66 => 155 | 70 => 159 | 76 => 163 | 77 => 164 | n => n, fun | n => n⟩
theorem Tryz.sortHeld : Go.Proofs.SlLaysF0.n6 Tryz.prog Tryz.sortHeld_ren := {
  mixed := by kernel_rfl
  f6 := ⟨Tryz.f88.name, by decide, Tryz.func88.trans (congrArg some (by kernel_rfl))⟩
  f14 := ⟨Tryz.f110.name, by decide, Tryz.func110.trans (congrArg some (by kernel_rfl))⟩
  f15 := Tryz.func97.trans (congrArg some (by kernel_rfl))
  f20 := ⟨Tryz.f130.name, by decide, Tryz.func130.trans (congrArg some (by kernel_rfl))⟩
  f21 := ⟨Tryz.f131.name, by decide, Tryz.func131.trans (congrArg some (by kernel_rfl))⟩
  f22 := ⟨Tryz.f132.name, by decide, Tryz.func132.trans (congrArg some (by kernel_rfl))⟩
  f23 := ⟨Tryz.f133.name, by decide, Tryz.func133.trans (congrArg some (by kernel_rfl))⟩
  f24 := ⟨Tryz.f134.name, by decide, Tryz.func134.trans (congrArg some (by kernel_rfl))⟩
  f25 := ⟨Tryz.f135.name, by decide, Tryz.func135.trans (congrArg some (by kernel_rfl))⟩
  f26 := ⟨Tryz.f136.name, by decide, Tryz.func136.trans (congrArg some (by kernel_rfl))⟩
  f27 := ⟨Tryz.f137.name, by decide, Tryz.func137.trans (congrArg some (by kernel_rfl))⟩
  f28 := Tryz.func123.trans (congrArg some (by kernel_rfl))
  f29 := Tryz.func124.trans (congrArg some (by kernel_rfl))
  f46 := ⟨Tryz.f144.name, by decide, Tryz.func144.trans (congrArg some (by kernel_rfl))⟩
  f47 := Tryz.func140.trans (congrArg some (by kernel_rfl))
  f48 := Tryz.func141.trans (congrArg some (by kernel_rfl))
  f49 := ⟨Tryz.f145.name, by decide, Tryz.func145.trans (congrArg some (by kernel_rfl))⟩
  f50 := ⟨Tryz.f146.name, by decide, Tryz.func146.trans (congrArg some (by kernel_rfl))⟩
  f57 := ⟨Tryz.f148.name, by decide, Tryz.func148.trans (congrArg some (by kernel_rfl))⟩
  t0 := Tryz.underlying0
  a0 := Tryz.isAgg0
  z0 := Tryz.sizeOf0
  v0 := Tryz.zeroValue0
  t3 := Tryz.underlying3
  a3 := Tryz.isAgg3
  z3 := Tryz.sizeOf3
  v3 := Tryz.zeroValue3
  t4 := Tryz.underlying4
  a4 := Tryz.isAgg4
  z4 := Tryz.sizeOf4
  v4 := Tryz.zeroValue4
  t5 := Tryz.underlying5
  a5 := Tryz.isAgg5
  z5 := Tryz.sizeOf5
  v5 := Tryz.zeroValue5
  t9 := Tryz.underlying9
  a9 := Tryz.isAgg9
  z9 := Tryz.sizeOf9
  v9 := Tryz.zeroValue9
  t22 := Tryz.underlying24
  a22 := Tryz.isAgg24
  z22 := Tryz.sizeOf24
  v22 := Tryz.zeroValue24
  t25 := Tryz.underlying112
  a25 := Tryz.isAgg112
  z25 := Tryz.sizeOf112
  v25 := Tryz.zeroValue112
  t39 := Tryz.underlying103
  a39 := Tryz.isAgg103
  z39 := Tryz.sizeOf103
  v39 := Tryz.zeroValue103
  t45 := Tryz.underlying134
  a45 := Tryz.isAgg134
  z45 := Tryz.sizeOf134
  v45 := Tryz.zeroValue134
  t46 := Tryz.underlying135
  a46 := Tryz.isAgg135
  z46 := Tryz.sizeOf135
  v46 := Tryz.zeroValue135
  t50 := Tryz.underlying59
  a50 := Tryz.isAgg59
  z50 := Tryz.sizeOf59
  v50 := Tryz.zeroValue59
  t53 := Tryz.underlying142
  a53 := Tryz.isAgg142
  z53 := Tryz.sizeOf142
  v53 := Tryz.zeroValue142
  t55 := Tryz.underlying67
  a55 := Tryz.isAgg67
  z55 := Tryz.sizeOf67
  v55 := Tryz.zeroValue67
  t66 := Tryz.underlying155
  a66 := Tryz.isAgg155
  z66 := Tryz.sizeOf155
  v66 := Tryz.zeroValue155
  t70 := Tryz.underlying159
  a70 := Tryz.isAgg159
  z70 := Tryz.sizeOf159
  v70 := Tryz.zeroValue159
  t76 := Tryz.underlying163
  a76 := Tryz.isAgg163
  z76 := Tryz.sizeOf163
  v76 := Tryz.zeroValue163
  t77 := Tryz.underlying164
  a77 := Tryz.isAgg164
  z77 := Tryz.sizeOf164
  v77 := Tryz.zeroValue164
}

end Go.Proofs

namespace Go.Proofs.YtchogijdkagiiaaGreatDoor
open Go.RowKit Go.Sort

theorem compare64_any (a b : Int) (w : World) : Calls Tryz.prog 90 #[.int .i64 a, .int .i64 b] w fun e w' => e = .returned (.int .i64 (hcmpZ a b)) ∧ w' = w := by
  by_cases h1 : a < b
  · have e : Hid (hcmpZ a b = -1) := Lib.hid (by unfold hcmpZ; rw [if_pos h1])
    go_enter Tryz.func90, Tryz.ntmps90
    go_wp2
    go_ret
    exact ⟨by rw [e.out]; rfl, rfl⟩
  · by_cases h2 : b < a
    · have e : Hid (hcmpZ a b = 1) := Lib.hid (by unfold hcmpZ; rw [if_neg h1, if_pos h2])
      go_enter Tryz.func90, Tryz.ntmps90
      go_wp2
      go_ret
      exact ⟨by rw [e.out]; rfl, rfl⟩
    · have e : Hid (hcmpZ a b = 0) := Lib.hid (by unfold hcmpZ; rw [if_neg h1, if_neg h2])
      go_enter Tryz.func90, Tryz.ntmps90
      go_wp2
      go_ret
      exact ⟨by rw [e.out]; rfl, rfl⟩

/-- a holding with the slice that it bears -/
structure Hc where
  h : Hd
  A : Option Addr
  m : Nat
  c : Nat
instance : Inhabited Hc := ⟨⟨hd0, none, 0, 0⟩⟩
def encH (x : Hc) : List Value := [.int .i64 x.h.id, .slice x.A x.m x.c, .int .i64 x.h.frm, .int .i64 x.h.to]
theorem pick_cells {w : World} {ok : Nat → Prop} : ∀ (l : Tb) (fl : List Value), fl.length = l.length * 4 → (∀ j x, l[j]? = some x → EH w ok x ((fl.drop (j * 4)).take 4)) →
    ∃ p : List Hc, p.map Hc.h = l ∧ (∀ j x, p[j]? = some x → (fl.drop (j * 4)).take 4 = encH x) ∧ ∀ x ∈ p, EH w ok x.h (encH x)
  | [], fl, _, _ => ⟨[], rfl, fun j x h => by simp at h, fun x h => by cases h⟩
  | x :: r, fl, h1, h2 => by
    have e0 := h2 0 x rfl
    obtain ⟨A, m, c, hv, h3⟩ := id e0
    obtain ⟨p, p1, p2, p3⟩ := pick_cells (w := w) (ok := ok) r (fl.drop 4) (by rw [List.length_drop, h1, List.length_cons]; omega) (fun j y hy => by
      have := h2 (j + 1) y (by simpa using hy)
      rwa [show (j + 1) * 4 = 4 + j * 4 by omega, ← List.drop_drop] at this)
    refine ⟨⟨x, A, m, c⟩ :: p, by rw [List.map_cons, p1], fun j y hy => ?_, fun y hy => ?_⟩
    · cases j with
      | zero =>
        have : (⟨x, A, m, c⟩ : Hc) = y := by simpa using hy
        subst this
        exact hv
      | succ j =>
        have := p2 j y (by simpa using hy)
        rw [show (j + 1) * 4 = 4 + j * 4 by omega, ← List.drop_drop]
        exact this
    · rcases List.mem_cons.1 hy with e | e
      · subst e
        show EH w ok x [_, _, _, _]
        exact ⟨A, m, c, rfl, h3⟩
      · exact p3 y e
theorem ltH (x y : Hc) : Go.Proofs.ltOf (fun x y : Hc => hcmpZ x.h.frm y.h.frm) x y = decide (x.h.frm < y.h.frm) := cmpZ_lt _ _
theorem swoH : SWO (Go.Proofs.ltOf fun x y : Hc => hcmpZ x.h.frm y.h.frm) where
  irrefl x := by rw [ltH]; simp
  trans x y z h1 h2 := by rw [ltH] at *; simp at *; omega
  ntrans x y z h1 h2 := by rw [ltH] at *; simp at *; omega
set_option maxHeartbeats 1000000 in
/-- the question that sorts: which of two began earlier -/
theorem byFrom1_any (x y : Hc) (W : World) : Calls Tryz.prog 89 #[.agg #[.int .i64 x.h.id, .slice x.A x.m x.c, .int .i64 x.h.frm, .int .i64 x.h.to], .agg #[.int .i64 y.h.id, .slice y.A y.m y.c, .int .i64 y.h.frm, .int .i64 y.h.to]] W fun e w' => e = .returned (.int .i64 (hcmpZ x.h.frm y.h.frm)) ∧ ∃ q os', w' = grow (W.drewN q) os' := by
  have hcon := fun W' => compare64_any x.h.frm y.h.frm W'
  obtain ⟨r, hr⟩ : ∃ r, hcmpZ x.h.frm y.h.frm = r := ⟨_, rfl⟩
  rw [hr] at hcon ⊢
  go_enter Tryz.func89, Tryz.ntmps89
  go_wp2_with (go_at_call 90; refine (hcon _).mono ?_; rintro e w' ⟨rfl, rfl⟩)
  go_ret
  exact ⟨rfl, 0, _, by rw [alloc_eq_grow, alloc_eq_grow, grow_grow]; rfl⟩

section
variable {w w1 : World} {g m n c : Nat} {d : Array Hc} {os : Array Obj} {cur : Array Value} {T : TypeId}
/-- the world behind a sort, block by block -/
theorem sorted_block (hg : w.heap[g]? = some (.cells cur T (0, 0))) :
    (sortWorldK encH 4 w g 0 m d os).heap[g]? = some (.cells (putCells id 0 (flatK encH 4 d) cur) T (0, 0)) := by
  have hlt : g < w.heap.size := (Array.getElem?_eq_some_iff.1 hg).1
  unfold sortWorldK
  rw [heap_grow_old _ _ (by simp [putRowK, putRow, mapBlock]; exact hlt)]
  show ((Sort.ahead w m).heap.modify g (onCells (putCells id 0 (flatK encH 4 d))))[g]? = _
  rw [Array.getElem?_modify, if_pos rfl]
  show Option.map _ w.heap[g]? = _
  rw [hg]
  rfl
theorem sorted_size : w.heap.size ≤ (sortWorldK encH 4 w g 0 m d os).heap.size := by
  unfold sortWorldK
  simp [putRowK, putRow, mapBlock]
theorem sorted_other {b : Nat} (hb : b < w.heap.size) (hne : b ≠ g) : (sortWorldK encH 4 w g 0 m d os).heap[b]? = w.heap[b]? := by
  unfold sortWorldK
  rw [heap_grow_old _ _ (by simp [putRowK, putRow, mapBlock]; exact hb)]
  show ((Sort.ahead w m).heap.modify g (onCells (putCells id 0 (flatK encH 4 d))))[b]? = _
  rw [Array.getElem?_modify, if_neg (fun e => hne e.symm)]
  rfl
theorem sorted_below {B : Nat} {w0 : World} (h : Below B w0 w) (hB : B ≤ g) (hg : g < w.heap.size) : Below B w0 (sortWorldK encH 4 w g 0 m d os) := by
  exact h.trans ⟨rfl, rfl, rfl, sorted_size, fun b hb => sorted_other (by omega) (by omega)⟩
theorem encH_len (x : Hc) : (encH x).length = 4 := rfl
theorem flat_el {j : Nat} (hj : j < d.size) : ((flatK encH 4 d).toList.drop (j * 4)).take 4 = encH d[j]! := by
  apply List.ext_getElem?
  intro i
  by_cases hi : i < 4
  · rw [List.getElem?_take_of_lt hi, List.getElem?_drop]
    have ht : j * 4 + i < d.size * 4 := by omega
    have h1 := get_flatK encH 4 d (j * 4 + i) ht
    rw [getElem!_pos _ _ (by rw [size_flatK]; exact ht), show (j * 4 + i) / 4 = j by omega, show (j * 4 + i) % 4 = i by omega] at h1
    rw [List.getElem?_eq_getElem (by rw [Array.length_toList, size_flatK]; exact ht), Array.getElem_toList, h1, getElem!_pos _ _ (by rw [encH_len]; exact hi), List.getElem?_eq_getElem]
  · rw [List.getElem?_eq_none (by rw [List.length_take]; omega), List.getElem?_eq_none (by rw [encH_len]; omega)]
theorem put_take (hs : d.size * 4 ≤ cur.size) : (putCells id 0 (flatK encH 4 d) cur).toList.take (d.size * 4) = (flatK encH 4 d).toList := by
  have hF : (flatK encH 4 d).size = d.size * 4 := size_flatK _ _ _
  have hP : (putCells id 0 (flatK encH 4 d) cur).size = cur.size := by simp [putCells]
  apply List.ext_getElem?
  intro t
  by_cases ht : t < d.size * 4
  · rw [List.getElem?_take_of_lt ht, List.getElem?_eq_getElem (by rw [Array.length_toList]; omega), List.getElem?_eq_getElem (by rw [Array.length_toList]; omega), Array.getElem_toList, Array.getElem_toList]
    congr 1
    simp only [putCells, Array.getElem_mapIdx]
    rw [if_pos ⟨Nat.zero_le _, by omega⟩, Nat.sub_zero, getElem!_pos _ _ (by omega)]
    rfl
  · rw [List.getElem?_eq_none (by rw [List.length_take]; omega), List.getElem?_eq_none (by rw [Array.length_toList]; omega)]
/-- a row of holdings that has been sorted -/
theorem rowQ_sorted {ok : Nat → Prop} {B : Nat} {l : Tb} {p : List Hc} (h : RowQ EH 4 T ok B (.slice (some ⟨g, 0, none⟩) n c) l w) (hok : ∀ b, ok b → b < w.heap.size ∧ b ≠ g) (hd : d.size = n) (hp : ∀ x ∈ d.toList, x ∈ p)
    (hE : ∀ x ∈ p, EH w ok x.h (encH x)) : RowQ EH 4 T ok B (.slice (some ⟨g, 0, none⟩) n c) (d.toList.map Hc.h) (sortWorldK encH 4 w g 0 m d os) := by
  obtain ⟨fl, h1, _⟩ := h
  have hln : l.length = n := by
    rcases id h1.2 with ⟨e, _⟩ | ⟨g', cap', cur, e, _⟩
    · cases e
    · injection e with _ e2 _
      exact e2.symm
  have hsl : (d.toList.map Hc.h).length = n := by rw [List.length_map, Array.length_toList, hd]
  have hfl : (flatK encH 4 d).toList.length = n * 4 := by rw [Array.length_toList, size_flatK, hd]
  refine ⟨(flatK encH 4 d).toList, ?_, fun j x hx => ?_⟩
  · rw [hsl]
    rcases id h1.2 with ⟨e, _⟩ | ⟨g', cap', cur, e, e1, e2, e3, e4, e5, _⟩
    · cases e
    · injection e with f1 _ f3
      injection f1 with f1
      injection f1 with f1
      subst f1 f3
      refine ⟨hfl, .inr ⟨g, c, _, rfl, e1, sorted_block e2, by rw [← hln]; exact e3, e4, by simp [putCells]; exact e5, ?_⟩⟩
      rw [← hd]
      exact put_take (by rw [hd, e5]; rw [hln] at e3; exact Nat.mul_le_mul_right 4 e3)
  · have hj : j < d.size := by
      have := (List.getElem?_eq_some_iff.1 hx).1
      rw [hsl] at this
      omega
    have hx' : x = (d[j]!).h := by
      rw [List.getElem?_map, List.getElem?_eq_getElem (by rw [Array.length_toList]; exact hj), Array.getElem_toList] at hx
      rw [getElem!_pos d j hj]
      exact (Option.some.inj hx).symm
    rw [flat_el hj, hx']
    have hm : d[j]! ∈ d.toList := by
      rw [getElem!_pos d j hj, ← Array.getElem_toList (h := by rw [Array.length_toList]; exact hj)]
      exact List.getElem_mem _
    exact eh_steady.keep (hE _ (hp _ hm)) (fun b hb => sorted_other (hok b hb).1 (hok b hb).2) (fun _ h => h)
end
theorem perm_all {d d' : Array Hc} (h : PermIn 0 d.size d d') : d'.toList.Perm d.toList := by
  obtain ⟨h1, _, h3⟩ := h
  rw [Array.extract_eq_self_of_le (by omega), Array.extract_eq_self_of_le (by omega)] at h3
  exact h3

set_option maxRecDepth 100000 in
set_option maxHeartbeats 4000000 in
theorem byFrom_any (B : Nat) (A : Option Addr) (n c : Nat) (l : Tb) (w : World) (hB : B ≤ w.heap.size) (hr : RT w B A n l) (hnil : A = none → c = 0) (hn : n ≤ 1000) :
    Calls Tryz.prog 73 #[.slice A n c] w fun e w' => ∃ v l', e = .returned v ∧ l'.Perm l ∧ (l'.Pairwise fun a b => a.frm ≤ b.frm) ∧ Below w.heap.size w w' ∧ RowQ EH 4 41 (Lt B) w.heap.size v l' w' := by
  have HL := Lib.hid hr.len
  have HC := Lib.hid (cloneQ_any B A n c l w hB hr hnil (by omega))
  have eg : ∀ args w, (callFunc 89 args).run Tryz.prog w = .ok (.enter 89 args) w := Go.Proofs.enters_of Tryz.func89 (by kernel_rfl) rfl
  clear hr hnil
  go_enter Tryz.func73, Tryz.ntmps73
  go_wp2_with fail
  refine HC.out.mono ?_
  rintro e w1 ⟨v, rfl, hb1, hon⟩
  have HB1 := Lib.hid hb1
  obtain ⟨A1, c1, rfl, _, _⟩ := hon.form
  have HO := Lib.hid hon
  rw [HL.out] at HO ⊢
  clear hon hb1
  rcases Nat.eq_zero_or_pos n with h0 | h0
  · subst h0
    have hcon := Go.Proofs.AnyF.slices_SortFunc_none Tryz.sortHeld A1 c1 (.func (.func 89) #[] #[]) w1
    change Calls Tryz.prog 88 _ _ _ at hcon
    have HCON := Lib.hid hcon
    have HE : Hid (l = []) := Lib.hid (List.eq_nil_of_length_eq_zero HL.out)
    clear hcon
    go_wp2_with fail
    refine HCON.out.mono ?_
    rintro e w2 ⟨rfl, rfl⟩
    go_wp2
    go_ret
    exact ⟨_, l, rfl, List.Perm.refl _, by rw [HE.out]; exact List.Pairwise.nil, HB1.out, HO.out⟩
  · obtain ⟨g, _, _, rfl, hgb, hgl, _⟩ := HO.out.at h0
    obtain ⟨fl, f1, f3⟩ := id HO.out
    obtain ⟨p, p1, p2, p3⟩ := pick_cells l fl (by have := f1.1; exact this) f3
    have hpl : p.length = n := by have := congrArg List.length p1; rw [List.length_map, HL.out] at this; exact this
    have hds : p.toArray.size = n := by simpa using hpl
    have hH : HoldsK encH 4 w1 g 0 p.toArray := by
      intro t ht
      rw [size_flatK, hds] at ht
      have hj : t / 4 < p.length := by omega
      have e1 := p2 (t / 4) _ (List.getElem?_eq_getElem hj)
      have hln := f1.1
      rw [HL.out] at f1 hln
      rw [Nat.zero_add, f1.cellAt t ht, f1.frozenAt t]
      refine ⟨?_, rfl⟩
      rw [get_flatK encH 4 p.toArray t (by rw [hds]; exact ht)]
      have e2 : ((fl.drop (t / 4 * 4)).take 4)[t % 4]? = fl[t]? := by
        rw [List.getElem?_take_of_lt (by omega), List.getElem?_drop, show t / 4 * 4 + t % 4 = t by omega]
      rw [← e2, e1, getElem!_pos p.toArray _ (by simpa using hj), getElem!_pos _ _ (by rw [encH_len]; omega)]
      rw [List.getElem?_eq_getElem (by rw [encH_len]; omega)]
      simp
    have hcon := Go.Proofs.AnyQ.slices_SortFunc Tryz.sortHeld 4 Tryz.isAgg41 Tryz.sizeOf41 encH (fun _ => rfl) (fun x v hv => by simp [encH] at hv; rcases hv with rfl | rfl | rfl | rfl <;> rfl) (fun x y => hcmpZ x.h.frm y.h.frm) swoH 89 #[] g 0 c1 p.toArray w1 eg (fun _ _ _ _ x y => byFrom1_any x y _) hH hgl (by rw [hds]; omega)
    change Calls Tryz.prog 88 _ _ _ at hcon
    rw [hds] at hcon
    have HCON := Lib.hid hcon
    have HP : Hid (∀ d' : Array Hc, ∀ m os, PermIn 0 n p.toArray d' → SortedIn (Go.Proofs.ltOf fun x y : Hc => hcmpZ x.h.frm y.h.frm) 0 n d' →
        ∃ l' : Tb, l'.Perm l ∧ (l'.Pairwise fun a b => a.frm ≤ b.frm) ∧ Below w.heap.size w (sortWorldK encH 4 w1 g 0 m d' os) ∧ RowQ EH 4 41 (Lt B) w.heap.size (.slice (some ⟨g, 0, none⟩) n c1) l' (sortWorldK encH 4 w1 g 0 m d' os)) := Lib.hid (fun d' m os hp hs => by
      have hsz : d'.size = n := by rw [hp.1, hds]
      have hperm := perm_all (by rw [hds]; exact hp)
      refine ⟨d'.toList.map Hc.h, ?_, ?_, sorted_below HB1.out hgb hgl, rowQ_sorted HO.out (fun b hb => ⟨Nat.lt_of_lt_of_le hb (Nat.le_trans hB HB1.out.size), fun e => by have hb' : b < B := hb; omega⟩) hsz (p := p) (fun x hx => by simpa using (hperm.mem_iff).1 hx) p3⟩
      · have := hperm.map Hc.h
        rwa [show p.toArray.toList = p from rfl, p1] at this
      · rw [List.pairwise_iff_getElem]
        intro i j hi hj hij
        rw [List.length_map, Array.length_toList] at hi hj
        have := hs i j (Nat.zero_le _) hij (by omega)
        rw [ltH, decide_eq_false_iff_not, getElem!_pos d' i hi, getElem!_pos d' j hj] at this
        rw [List.getElem_map, List.getElem_map, Array.getElem_toList, Array.getElem_toList]
        omega)
    clear hcon hH p1 p2 p3 f1 f3 eg hgb hgl hpl hds
    go_wp2_with fail
    refine HCON.out.mono ?_
    rintro e w2 ⟨rfl, d', m, os, hp, hs, rfl⟩
    have HF := Lib.hid (HP.out d' m os hp hs)
    clear hp hs
    go_wp2
    go_ret
    obtain ⟨l', h1, h2, h3, h4⟩ := HF.out
    exact ⟨_, l', rfl, h1, h2, h3, h4⟩

end Go.Proofs.YtchogijdkagiiaaGreatDoor

namespace Go.Proofs.YtchogijdkagiiaaGreatDoor
open Go.RowKit

/-- the cells of marks -/
def tillA (p : Nat → Int) : Array Value := ((List.range 256).map fun k => Value.int .i64 (p k)).toArray
theorem tillA_size (p : Nat → Int) : (tillA p).size = 256 := by unfold tillA; simp
theorem tillA_at (p : Nat → Int) {k : Nat} (hk : k < 256) : (tillA p)[k]? = some (.int .i64 (p k)) := by unfold tillA; simp [hk]
/-- one mark more, or less -/
def tset (p : Nat → Int) (k : Nat) (b : Int) : Nat → Int := fun j => if j = k then b else p j
theorem tset_same (p : Nat → Int) (k : Nat) (b : Int) : tset p k b k = b := by unfold tset; rw [if_pos rfl]
theorem tset_other (p : Nat → Int) {k j : Nat} (b : Int) (h : j ≠ k) : tset p k b j = p j := by unfold tset; rw [if_neg h]
theorem tillA_set (p : Nat → Int) (k : Nat) (b : Int) : (tillA p).setIfInBounds k (.int .i64 b) = tillA (tset p k b) := by
  apply Array.ext
  · simp [tillA_size]
  · intro j h1 h2
    rw [tillA_size] at h2
    have e2 := tillA_at (tset p k b) h2
    rw [Array.getElem?_eq_getElem (by rw [tillA_size]; exact h2)] at e2
    have e2' := Option.some.inj e2
    rw [e2', Array.getElem_setIfInBounds (by rw [tillA_size]; exact h2)]
    split
    · rename_i h; subst h; rw [tset_same]
    · rename_i h
      have e1 := tillA_at p h2
      rw [Array.getElem?_eq_getElem (by rw [tillA_size]; exact h2)] at e1
      rw [Option.some.inj e1, tset_other _ _ (fun e => h e.symm)]
theorem tills_closed : (Tryz.prog.info? 100).map (fun i => (i.zero.map Value.cells, i.size)) = some (some (tillA fun _ => 0), 256) := by kernel_rfl
/-- marks in a new block, behind a world -/
structure TillM (W : World) (p : Nat → Int) (wr : World) : Prop where
  bel : Below W.heap.size W wr
  at' : wr.heap[W.heap.size]? = some (.cells (tillA p) 100 (0, 0))
section
variable {W wr w' : World} {p : Nat → Int} {k : Nat}
theorem TillM.lt (h : TillM W p wr) : W.heap.size < wr.heap.size := (Array.getElem?_eq_some_iff.1 h.at').1
theorem TillM.cell (h : TillM W p wr) (hk : k < 256) : wr.cell? ⟨W.heap.size, k, none⟩ = some (.int .i64 (p k)) := by
  rw [cell_of_row _ _ _ _ _ _ h.at', tillA_at p hk]
theorem TillM.frozen (h : TillM W p wr) (k : Nat) : wr.frozen? ⟨W.heap.size, k, none⟩ = false := frozen_of_row _ _ _ _ _ h.at'
theorem TillM.next (h : TillM W p wr) (hb : Below wr.heap.size wr w') : TillM W p w' := ⟨h.bel.trans (hb.mono h.bel.size), (hb.block _ h.lt).trans h.at'⟩
theorem TillM.drewN (h : TillM W p wr) (q : Nat) : TillM W p (wr.drewN q) := h.next (bel_drew wr q)
theorem TillM.set (h : TillM W p wr) (b : Int) : TillM W (tset p k b) (wr.setCell ⟨W.heap.size, k, none⟩ (.int .i64 b)) := by
  refine ⟨h.bel.setCell (Nat.le_refl _) _, ?_⟩
  rw [heap_setCell_same wr W.heap.size k _ _ _ h.at', tillA_set]
theorem tills_made (W : World) : TillM W (fun _ => 0) (W.alloc (.cells (tillA fun _ => 0) 100)) :=
  ⟨(Below.refl _ _).alloc (Nat.le_refl _) _, heap_alloc_new W _⟩
end

/-- 'var in marks' -/
theorem wpList_alloc_tills {ops : Array Oper} {rest : List Oper} {o : Oper} {a : Act} {Q : Exit → Act → World → Prop} {w : World} (hgd : o.guard = none) (ho : o.op = .alloc 100)
    (h : ∀ w', TillM w (fun _ => 0) w' → wpList Tryz.prog ops Q rest (a.put o.dst (.pointer (some ⟨w.heap.size, 0, none⟩))) w') : wpList Tryz.prog ops Q (o :: rest) a w := by
  refine wpList_plain hgd fun K hK => ?_
  have hc := tills_closed
  cases hi : Tryz.prog.info? 100 with
  | none => rw [hi] at hc; cases hc
  | some i =>
    rw [hi] at hc
    simp only [Option.map_some, Option.some.injEq, Prod.mk.injEq] at hc
    obtain ⟨z, hz, hzc⟩ : ∃ z, i.zero = some z ∧ z.cells = tillA fun _ => 0 := by
      cases hz : i.zero with
      | none => rw [hz] at hc; cases hc.1
      | some z => rw [hz] at hc; exact ⟨z, rfl, Option.some.inj hc.1⟩
    have hrun : (Instr.alloc 100 true (.tuple #[])).run Tryz.prog w = .ok (.pointer (some ⟨w.heap.size, 0, none⟩)) (w.alloc (.cells (tillA fun _ => 0) 100)) := by
      simp [Instr.alloc, zeroValue, typeInfo, hi, hz, newVar, newRow, hzc]
    unfold Oper.wp
    simp [execOp, ho, hrun, Result.andThen]
    exact hK _ _ (h _ (tills_made w))
end Go.Proofs.YtchogijdkagiiaaGreatDoor
