/- The program's byFrom: a table's holdings in a new row, the earlier ones first. Words for memory: an array of 256 numbers in a block of its own (till when each thing is held): made, marked, loaded whole, asked at a place. The program's twice: is a thing held twice at a time, by holdings each of which may be. The program's Right of layer 10. Written by gen/gen_heldpright.py. Words for memory: an array of 256 bools in a block of its own (what is busy): made, marked, loaded whole, asked at a place. The program's busy and Busy of layer 10. -/
import Derived.IntWalk
import Derived.Test.YtpoalgkgomljmaaGreatDoorMg12
import Derived.Laws.Rows
import Derived.Test.YtpoalgkgomljmaaGreatDoorMg10
import Derived.Test.YtpoalgkgomljmaaGreatDoorMg07
import Derived.Test.YtpoalgkgomljmaaGreatDoorMg02
namespace Go.Proofs.YtpoalgkgomljmaaGreatDoor
open Go.RowKit Go.Sort

theorem compare64_any (a b : Int) (w : World) : Calls Tryz.prog 118 #[.int .i64 a, .int .i64 b] w fun e w' => e = .returned (.int .i64 (hcmpZ a b)) ∧ w' = w := by
  by_cases h1 : a < b
  · have e : Hid (hcmpZ a b = -1) := Lib.hid (by unfold hcmpZ; rw [if_pos h1])
    go_enter Tryz.func118, Tryz.ntmps118
    go_wp2
    go_ret
    exact ⟨by rw [e.out]; rfl, rfl⟩
  · by_cases h2 : b < a
    · have e : Hid (hcmpZ a b = 1) := Lib.hid (by unfold hcmpZ; rw [if_neg h1, if_pos h2])
      go_enter Tryz.func118, Tryz.ntmps118
      go_wp2
      go_ret
      exact ⟨by rw [e.out]; rfl, rfl⟩
    · have e : Hid (hcmpZ a b = 0) := Lib.hid (by unfold hcmpZ; rw [if_neg h1, if_neg h2])
      go_enter Tryz.func118, Tryz.ntmps118
      go_wp2
      go_ret
      exact ⟨by rw [e.out]; rfl, rfl⟩

/-- a holding with the slice that it bears -/
structure Hc where
  h : Hd
  A : Option Addr
  m : Nat
  c : Nat
instance : Inhabited Hc := ⟨⟨hd0, none, 0, 0⟩⟩
def encH (x : Hc) : List Value := [.int .i64 x.h.id, .slice x.A x.m x.c, .int .i64 x.h.frm, .int .i64 x.h.to]
theorem pick_cells {w : World} {ok : Nat → Prop} : ∀ (l : Tb) (fl : List Value), fl.length = l.length * 4 → (∀ j x, l[j]? = some x → EH w ok x ((fl.drop (j * 4)).take 4)) →
    ∃ p : List Hc, p.map Hc.h = l ∧ (∀ j x, p[j]? = some x → (fl.drop (j * 4)).take 4 = encH x) ∧ ∀ x ∈ p, EH w ok x.h (encH x)
  | [], fl, _, _ => ⟨[], rfl, fun j x h => by simp at h, fun x h => by cases h⟩
  | x :: r, fl, h1, h2 => by
    have e0 := h2 0 x rfl
    obtain ⟨A, m, c, hv, h3⟩ := id e0
    obtain ⟨p, p1, p2, p3⟩ := pick_cells (w := w) (ok := ok) r (fl.drop 4) (by rw [List.length_drop, h1, List.length_cons]; omega) (fun j y hy => by
      have := h2 (j + 1) y (by simpa using hy)
      rwa [show (j + 1) * 4 = 4 + j * 4 by omega, ← List.drop_drop] at this)
    refine ⟨⟨x, A, m, c⟩ :: p, by rw [List.map_cons, p1], fun j y hy => ?_, fun y hy => ?_⟩
    · cases j with
      | zero =>
        have : (⟨x, A, m, c⟩ : Hc) = y := by simpa using hy
        subst this
        exact hv
      | succ j =>
        have := p2 j y (by simpa using hy)
        rw [show (j + 1) * 4 = 4 + j * 4 by omega, ← List.drop_drop]
        exact this
    · rcases List.mem_cons.1 hy with e | e
      · subst e
        show EH w ok x [_, _, _, _]
        exact ⟨A, m, c, rfl, h3⟩
      · exact p3 y e
theorem ltH (x y : Hc) : Go.Proofs.ltOf (fun x y : Hc => hcmpZ x.h.frm y.h.frm) x y = decide (x.h.frm < y.h.frm) := cmpZ_lt _ _
theorem swoH : SWO (Go.Proofs.ltOf fun x y : Hc => hcmpZ x.h.frm y.h.frm) where
  irrefl x := by rw [ltH]; simp
  trans x y z h1 h2 := by rw [ltH] at *; simp at *; omega
  ntrans x y z h1 h2 := by rw [ltH] at *; simp at *; omega
set_option maxHeartbeats 1000000 in
/-- the question that sorts: which of two began earlier -/
theorem byFrom1_any (x y : Hc) (W : World) : Calls Tryz.prog 117 #[.agg #[.int .i64 x.h.id, .slice x.A x.m x.c, .int .i64 x.h.frm, .int .i64 x.h.to], .agg #[.int .i64 y.h.id, .slice y.A y.m y.c, .int .i64 y.h.frm, .int .i64 y.h.to]] W fun e w' => e = .returned (.int .i64 (hcmpZ x.h.frm y.h.frm)) ∧ ∃ q os', w' = grow (W.drewN q) os' := by
  have hcon := fun W' => compare64_any x.h.frm y.h.frm W'
  obtain ⟨r, hr⟩ : ∃ r, hcmpZ x.h.frm y.h.frm = r := ⟨_, rfl⟩
  rw [hr] at hcon ⊢
  go_enter Tryz.func117, Tryz.ntmps117
  go_wp2_with (go_at_call 118; refine (hcon _).mono ?_; rintro e w' ⟨rfl, rfl⟩)
  go_ret
  exact ⟨rfl, 0, _, by rw [alloc_eq_grow, alloc_eq_grow, grow_grow]; rfl⟩

section
variable {w w1 : World} {g m n c : Nat} {d : Array Hc} {os : Array Obj} {cur : Array Value} {T : TypeId}
/-- the world behind a sort, block by block -/
theorem sorted_block (hg : w.heap[g]? = some (.cells cur T (0, 0))) :
    (sortWorldK encH 4 w g 0 m d os).heap[g]? = some (.cells (putCells id 0 (flatK encH 4 d) cur) T (0, 0)) := by
  have hlt : g < w.heap.size := (Array.getElem?_eq_some_iff.1 hg).1
  unfold sortWorldK
  rw [heap_grow_old _ _ (by simp [putRowK, putRow, mapBlock]; exact hlt)]
  show ((Sort.ahead w m).heap.modify g (onCells (putCells id 0 (flatK encH 4 d))))[g]? = _
  rw [Array.getElem?_modify, if_pos rfl]
  show Option.map _ w.heap[g]? = _
  rw [hg]
  rfl
theorem sorted_size : w.heap.size ≤ (sortWorldK encH 4 w g 0 m d os).heap.size := by
  unfold sortWorldK
  simp [putRowK, putRow, mapBlock]
theorem sorted_other {b : Nat} (hb : b < w.heap.size) (hne : b ≠ g) : (sortWorldK encH 4 w g 0 m d os).heap[b]? = w.heap[b]? := by
  unfold sortWorldK
  rw [heap_grow_old _ _ (by simp [putRowK, putRow, mapBlock]; exact hb)]
  show ((Sort.ahead w m).heap.modify g (onCells (putCells id 0 (flatK encH 4 d))))[b]? = _
  rw [Array.getElem?_modify, if_neg (fun e => hne e.symm)]
  rfl
theorem sorted_below {B : Nat} {w0 : World} (h : Below B w0 w) (hB : B ≤ g) (hg : g < w.heap.size) : Below B w0 (sortWorldK encH 4 w g 0 m d os) := by
  exact h.trans ⟨rfl, rfl, rfl, sorted_size, fun b hb => sorted_other (by omega) (by omega)⟩
theorem encH_len (x : Hc) : (encH x).length = 4 := rfl
theorem flat_el {j : Nat} (hj : j < d.size) : ((flatK encH 4 d).toList.drop (j * 4)).take 4 = encH d[j]! := by
  apply List.ext_getElem?
  intro i
  by_cases hi : i < 4
  · rw [List.getElem?_take_of_lt hi, List.getElem?_drop]
    have ht : j * 4 + i < d.size * 4 := by omega
    have h1 := get_flatK encH 4 d (j * 4 + i) ht
    rw [getElem!_pos _ _ (by rw [size_flatK]; exact ht), show (j * 4 + i) / 4 = j by omega, show (j * 4 + i) % 4 = i by omega] at h1
    rw [List.getElem?_eq_getElem (by rw [Array.length_toList, size_flatK]; exact ht), Array.getElem_toList, h1, getElem!_pos _ _ (by rw [encH_len]; exact hi), List.getElem?_eq_getElem]
  · rw [List.getElem?_eq_none (by rw [List.length_take]; omega), List.getElem?_eq_none (by rw [encH_len]; omega)]
theorem put_take (hs : d.size * 4 ≤ cur.size) : (putCells id 0 (flatK encH 4 d) cur).toList.take (d.size * 4) = (flatK encH 4 d).toList := by
  have hF : (flatK encH 4 d).size = d.size * 4 := size_flatK _ _ _
  have hP : (putCells id 0 (flatK encH 4 d) cur).size = cur.size := by simp [putCells]
  apply List.ext_getElem?
  intro t
  by_cases ht : t < d.size * 4
  · rw [List.getElem?_take_of_lt ht, List.getElem?_eq_getElem (by rw [Array.length_toList]; omega), List.getElem?_eq_getElem (by rw [Array.length_toList]; omega), Array.getElem_toList, Array.getElem_toList]
    congr 1
    simp only [putCells, Array.getElem_mapIdx]
    rw [if_pos ⟨Nat.zero_le _, by omega⟩, Nat.sub_zero, getElem!_pos _ _ (by omega)]
    rfl
  · rw [List.getElem?_eq_none (by rw [List.length_take]; omega), List.getElem?_eq_none (by rw [Array.length_toList]; omega)]
/-- a row of holdings that has been sorted -/
theorem rowQ_sorted {ok : Nat → Prop} {B : Nat} {l : Tb} {p : List Hc} (h : RowQ EH 4 T ok B (.slice (some ⟨g, 0, none⟩) n c) l w) (hok : ∀ b, ok b → b < w.heap.size ∧ b ≠ g) (hd : d.size = n) (hp : ∀ x ∈ d.toList, x ∈ p)
    (hE : ∀ x ∈ p, EH w ok x.h (encH x)) : RowQ EH 4 T ok B (.slice (some ⟨g, 0, none⟩) n c) (d.toList.map Hc.h) (sortWorldK encH 4 w g 0 m d os) := by
  obtain ⟨fl, h1, _⟩ := h
  have hln : l.length = n := by
    rcases id h1.2 with ⟨e, _⟩ | ⟨g', cap', cur, e, _⟩
    · cases e
    · injection e with _ e2 _
      exact e2.symm
  have hsl : (d.toList.map Hc.h).length = n := by rw [List.length_map, Array.length_toList, hd]
  have hfl : (flatK encH 4 d).toList.length = n * 4 := by rw [Array.length_toList, size_flatK, hd]
  refine ⟨(flatK encH 4 d).toList, ?_, fun j x hx => ?_⟩
  · rw [hsl]
    rcases id h1.2 with ⟨e, _⟩ | ⟨g', cap', cur, e, e1, e2, e3, e4, e5, _⟩
    · cases e
    · injection e with f1 _ f3
      injection f1 with f1
      injection f1 with f1
      subst f1 f3
      refine ⟨hfl, .inr ⟨g, c, _, rfl, e1, sorted_block e2, by rw [← hln]; exact e3, e4, by simp [putCells]; exact e5, ?_⟩⟩
      rw [← hd]
      exact put_take (by rw [hd, e5]; rw [hln] at e3; exact Nat.mul_le_mul_right 4 e3)
  · have hj : j < d.size := by
      have := (List.getElem?_eq_some_iff.1 hx).1
      rw [hsl] at this
      omega
    have hx' : x = (d[j]!).h := by
      rw [List.getElem?_map, List.getElem?_eq_getElem (by rw [Array.length_toList]; exact hj), Array.getElem_toList] at hx
      rw [getElem!_pos d j hj]
      exact (Option.some.inj hx).symm
    rw [flat_el hj, hx']
    have hm : d[j]! ∈ d.toList := by
      rw [getElem!_pos d j hj, ← Array.getElem_toList (h := by rw [Array.length_toList]; exact hj)]
      exact List.getElem_mem _
    exact eh_steady.keep (hE _ (hp _ hm)) (fun b hb => sorted_other (hok b hb).1 (hok b hb).2) (fun _ h => h)
end
theorem perm_all {d d' : Array Hc} (h : PermIn 0 d.size d d') : d'.toList.Perm d.toList := by
  obtain ⟨h1, _, h3⟩ := h
  rw [Array.extract_eq_self_of_le (by omega), Array.extract_eq_self_of_le (by omega)] at h3
  exact h3

set_option maxRecDepth 100000 in
set_option maxHeartbeats 4000000 in
theorem byFrom_any (B : Nat) (A : Option Addr) (n c : Nat) (l : Tb) (w : World) (hB : B ≤ w.heap.size) (hr : RT w B A n l) (hnil : A = none → c = 0) (hn : n ≤ 1000) :
    Calls Tryz.prog 86 #[.slice A n c] w fun e w' => ∃ v l', e = .returned v ∧ l'.Perm l ∧ (l'.Pairwise fun a b => a.frm ≤ b.frm) ∧ Below w.heap.size w w' ∧ RowQ EH 4 51 (Lt B) w.heap.size v l' w' := by
  have HL := Lib.hid hr.len
  have HC := Lib.hid (cloneQ_any B A n c l w hB hr hnil (by omega))
  have eg : ∀ args w, (callFunc 117 args).run Tryz.prog w = .ok (.enter 117 args) w := Go.Proofs.enters_of Tryz.func117 (by kernel_rfl) rfl
  clear hr hnil
  go_enter Tryz.func86, Tryz.ntmps86
  go_wp2_with fail
  refine HC.out.mono ?_
  rintro e w1 ⟨v, rfl, hb1, hon⟩
  have HB1 := Lib.hid hb1
  obtain ⟨A1, c1, rfl, _, _⟩ := hon.form
  have HO := Lib.hid hon
  rw [HL.out] at HO ⊢
  clear hon hb1
  rcases Nat.eq_zero_or_pos n with h0 | h0
  · subst h0
    have hcon := Go.Proofs.AnyF.slices_SortFunc_none Tryz.sortHeld A1 c1 (.func (.func 117) #[] #[]) w1
    change Calls Tryz.prog 116 _ _ _ at hcon
    have HCON := Lib.hid hcon
    have HE : Hid (l = []) := Lib.hid (List.eq_nil_of_length_eq_zero HL.out)
    clear hcon
    go_wp2_with fail
    refine HCON.out.mono ?_
    rintro e w2 ⟨rfl, rfl⟩
    go_wp2
    go_ret
    exact ⟨_, l, rfl, List.Perm.refl _, by rw [HE.out]; exact List.Pairwise.nil, HB1.out, HO.out⟩
  · obtain ⟨g, _, _, rfl, hgb, hgl, _⟩ := HO.out.at h0
    obtain ⟨fl, f1, f3⟩ := id HO.out
    obtain ⟨p, p1, p2, p3⟩ := pick_cells l fl (by have := f1.1; exact this) f3
    have hpl : p.length = n := by have := congrArg List.length p1; rw [List.length_map, HL.out] at this; exact this
    have hds : p.toArray.size = n := by simpa using hpl
    have hH : HoldsK encH 4 w1 g 0 p.toArray := by
      intro t ht
      rw [size_flatK, hds] at ht
      have hj : t / 4 < p.length := by omega
      have e1 := p2 (t / 4) _ (List.getElem?_eq_getElem hj)
      have hln := f1.1
      rw [HL.out] at f1 hln
      rw [Nat.zero_add, f1.cellAt t ht, f1.frozenAt t]
      refine ⟨?_, rfl⟩
      rw [get_flatK encH 4 p.toArray t (by rw [hds]; exact ht)]
      have e2 : ((fl.drop (t / 4 * 4)).take 4)[t % 4]? = fl[t]? := by
        rw [List.getElem?_take_of_lt (by omega), List.getElem?_drop, show t / 4 * 4 + t % 4 = t by omega]
      rw [← e2, e1, getElem!_pos p.toArray _ (by simpa using hj), getElem!_pos _ _ (by rw [encH_len]; omega)]
      rw [List.getElem?_eq_getElem (by rw [encH_len]; omega)]
      simp
    have hcon := Go.Proofs.AnyQ.slices_SortFunc Tryz.sortHeld 4 Tryz.isAgg51 Tryz.sizeOf51 encH (fun _ => rfl) (fun x v hv => by simp [encH] at hv; rcases hv with rfl | rfl | rfl | rfl <;> rfl) (fun x y => hcmpZ x.h.frm y.h.frm) swoH 117 #[] g 0 c1 p.toArray w1 eg (fun _ _ _ _ x y => byFrom1_any x y _) hH hgl (by rw [hds]; omega)
    change Calls Tryz.prog 116 _ _ _ at hcon
    rw [hds] at hcon
    have HCON := Lib.hid hcon
    have HP : Hid (∀ d' : Array Hc, ∀ m os, PermIn 0 n p.toArray d' → SortedIn (Go.Proofs.ltOf fun x y : Hc => hcmpZ x.h.frm y.h.frm) 0 n d' →
        ∃ l' : Tb, l'.Perm l ∧ (l'.Pairwise fun a b => a.frm ≤ b.frm) ∧ Below w.heap.size w (sortWorldK encH 4 w1 g 0 m d' os) ∧ RowQ EH 4 51 (Lt B) w.heap.size (.slice (some ⟨g, 0, none⟩) n c1) l' (sortWorldK encH 4 w1 g 0 m d' os)) := Lib.hid (fun d' m os hp hs => by
      have hsz : d'.size = n := by rw [hp.1, hds]
      have hperm := perm_all (by rw [hds]; exact hp)
      refine ⟨d'.toList.map Hc.h, ?_, ?_, sorted_below HB1.out hgb hgl, rowQ_sorted HO.out (fun b hb => ⟨Nat.lt_of_lt_of_le hb (Nat.le_trans hB HB1.out.size), fun e => by have hb' : b < B := hb; omega⟩) hsz (p := p) (fun x hx => by simpa using (hperm.mem_iff).1 hx) p3⟩
      · have := hperm.map Hc.h
        rwa [show p.toArray.toList = p from rfl, p1] at this
      · rw [List.pairwise_iff_getElem]
        intro i j hi hj hij
        rw [List.length_map, Array.length_toList] at hi hj
        have := hs i j (Nat.zero_le _) hij (by omega)
        rw [ltH, decide_eq_false_iff_not, getElem!_pos d' i hi, getElem!_pos d' j hj] at this
        rw [List.getElem_map, List.getElem_map, Array.getElem_toList, Array.getElem_toList]
        omega)
    clear hcon hH p1 p2 p3 f1 f3 eg hgb hgl hpl hds
    go_wp2_with fail
    refine HCON.out.mono ?_
    rintro e w2 ⟨rfl, d', m, os, hp, hs, rfl⟩
    have HF := Lib.hid (HP.out d' m os hp hs)
    clear hp hs
    go_wp2
    go_ret
    obtain ⟨l', h1, h2, h3, h4⟩ := HF.out
    exact ⟨_, l', rfl, h1, h2, h3, h4⟩

end Go.Proofs.YtpoalgkgomljmaaGreatDoor

namespace Go.Proofs.YtpoalgkgomljmaaGreatDoor
open Go.RowKit

/-- the cells of marks -/
def tillA (p : Nat → Int) : Array Value := ((List.range 256).map fun k => Value.int .i64 (p k)).toArray
theorem tillA_size (p : Nat → Int) : (tillA p).size = 256 := by unfold tillA; simp
theorem tillA_at (p : Nat → Int) {k : Nat} (hk : k < 256) : (tillA p)[k]? = some (.int .i64 (p k)) := by unfold tillA; simp [hk]
/-- one mark more, or less -/
def tset (p : Nat → Int) (k : Nat) (b : Int) : Nat → Int := fun j => if j = k then b else p j
theorem tset_same (p : Nat → Int) (k : Nat) (b : Int) : tset p k b k = b := by unfold tset; rw [if_pos rfl]
theorem tset_other (p : Nat → Int) {k j : Nat} (b : Int) (h : j ≠ k) : tset p k b j = p j := by unfold tset; rw [if_neg h]
theorem tillA_set (p : Nat → Int) (k : Nat) (b : Int) : (tillA p).setIfInBounds k (.int .i64 b) = tillA (tset p k b) := by
  apply Array.ext
  · simp [tillA_size]
  · intro j h1 h2
    rw [tillA_size] at h2
    have e2 := tillA_at (tset p k b) h2
    rw [Array.getElem?_eq_getElem (by rw [tillA_size]; exact h2)] at e2
    have e2' := Option.some.inj e2
    rw [e2', Array.getElem_setIfInBounds (by rw [tillA_size]; exact h2)]
    split
    · rename_i h; subst h; rw [tset_same]
    · rename_i h
      have e1 := tillA_at p h2
      rw [Array.getElem?_eq_getElem (by rw [tillA_size]; exact h2)] at e1
      rw [Option.some.inj e1, tset_other _ _ (fun e => h e.symm)]
theorem tillA_ext {p q : Nat → Int} (h : ∀ k, k < 256 → p k = q k) : tillA p = tillA q := by
  unfold tillA
  congr 1
  apply List.map_congr_left
  intro k hk
  rw [h k (List.mem_range.1 hk)]

theorem tills_closed : (Tryz.prog.info? 107).map (fun i => (i.zero.map Value.cells, i.size)) = some (some (tillA fun _ => 0), 256) := by kernel_rfl
theorem tills_size : (Tryz.prog.info? 107).map (·.size) = some 256 := by kernel_rfl

/-- marks in a new block, behind a world -/
structure TillM (W : World) (p : Nat → Int) (wr : World) : Prop where
  bel : Below W.heap.size W wr
  at' : wr.heap[W.heap.size]? = some (.cells (tillA p) 107 (0, 0))
section
variable {W wr w' : World} {p : Nat → Int} {k : Nat}
theorem TillM.lt (h : TillM W p wr) : W.heap.size < wr.heap.size := (Array.getElem?_eq_some_iff.1 h.at').1
theorem TillM.cell (h : TillM W p wr) (hk : k < 256) : wr.cell? ⟨W.heap.size, k, none⟩ = some (.int .i64 (p k)) := by
  rw [cell_of_row _ _ _ _ _ _ h.at', tillA_at p hk]
theorem TillM.frozen (h : TillM W p wr) (k : Nat) : wr.frozen? ⟨W.heap.size, k, none⟩ = false := frozen_of_row _ _ _ _ _ h.at'
theorem TillM.next (h : TillM W p wr) (hb : Below wr.heap.size wr w') : TillM W p w' := ⟨h.bel.trans (hb.mono h.bel.size), (hb.block _ h.lt).trans h.at'⟩
theorem TillM.drewN (h : TillM W p wr) (q : Nat) : TillM W p (wr.drewN q) := h.next (bel_drew wr q)
theorem TillM.set (h : TillM W p wr) (b : Int) : TillM W (tset p k b) (wr.setCell ⟨W.heap.size, k, none⟩ (.int .i64 b)) := by
  refine ⟨h.bel.setCell (Nat.le_refl _) _, ?_⟩
  rw [heap_setCell_same wr W.heap.size k _ _ _ h.at', tillA_set]
theorem TillM.ext {q : Nat → Int} (h : TillM W p wr) (he : ∀ k, k < 256 → p k = q k) : TillM W q wr := ⟨h.bel, by rw [h.at', tillA_ext he]⟩
theorem tills_made (W : World) : TillM W (fun _ => 0) (W.alloc (.cells (tillA fun _ => 0) 107)) :=
  ⟨(Below.refl _ _).alloc (Nat.le_refl _) _, heap_alloc_new W _⟩
theorem tills_boxed (W : World) (p : Nat → Int) : TillM W p (W.alloc (.cells (tillA p) 107)) :=
  ⟨(Below.refl _ _).alloc (Nat.le_refl _) _, heap_alloc_new W _⟩
end

/-- 'var in marks' -/
theorem wpList_alloc_tills {ops : Array Oper} {rest : List Oper} {o : Oper} {a : Act} {Q : Exit → Act → World → Prop} {w : World} (hgd : o.guard = none) (ho : o.op = .alloc 107)
    (h : ∀ w', TillM w (fun _ => 0) w' → wpList Tryz.prog ops Q rest (a.put o.dst (.pointer (some ⟨w.heap.size, 0, none⟩))) w') : wpList Tryz.prog ops Q (o :: rest) a w := by
  refine wpList_plain hgd fun K hK => ?_
  have hc := tills_closed
  cases hi : Tryz.prog.info? 107 with
  | none => rw [hi] at hc; cases hc
  | some i =>
    rw [hi] at hc
    simp only [Option.map_some, Option.some.injEq, Prod.mk.injEq] at hc
    obtain ⟨z, hz, hzc⟩ : ∃ z, i.zero = some z ∧ z.cells = tillA fun _ => 0 := by
      cases hz : i.zero with
      | none => rw [hz] at hc; cases hc.1
      | some z => rw [hz] at hc; exact ⟨z, rfl, Option.some.inj hc.1⟩
    have hrun : (Instr.alloc 107 true (.tuple #[])).run Tryz.prog w = .ok (.pointer (some ⟨w.heap.size, 0, none⟩)) (w.alloc (.cells (tillA fun _ => 0) 107)) := by
      simp [Instr.alloc, zeroValue, typeInfo, hi, hz, newVar, newRow, hzc]
    unfold Oper.wp
    simp [execOp, ho, hrun, Result.andThen]
    exact hK _ _ (h _ (tills_made w))
/-- 'in', as a value -/
theorem wpList_load_tills {ops : Array Oper} {rest : List Oper} {o : Oper} {a : Act} {Q : Exit → Act → World → Prop} {W w : World} {p : Nat → Int} (hgd : o.guard = none) (x : Operand) (ho : o.op = .load 107 x)
    (hm : TillM W p w) (hx : a.eval x = .pointer (some ⟨W.heap.size, 0, none⟩))
    (h : wpList Tryz.prog ops Q rest (a.put o.dst (.agg (tillA p))) w) : wpList Tryz.prog ops Q (o :: rest) a w :=
  wpList_load_row hgd _ x ho W.heap.size hx _ (tillA p) (0, 0) _ hm.at' Tryz.underlying107 rfl (by rw [tills_size, tillA_size]) h

end Go.Proofs.YtpoalgkgomljmaaGreatDoor

namespace Go.Proofs.YtpoalgkgomljmaaGreatDoor
open Go.RowKit

set_option maxRecDepth 100000 in
set_option maxHeartbeats 8000000 in
theorem twice_any (A : Option Addr) (n c : Nat) (l : Tb) (w : World) (hr : RT w w.heap.size A n l) (hnil : A = none → c = 0) (hf : FewT l) (hm : ∀ x ∈ l, MayH x) :
    Calls Tryz.prog 54 #[.slice A n c] w fun e w' => e = .returned (.bool (twiceB l)) ∧ Below w.heap.size w w' := by
  have HL := Lib.hid hr.len
  have HM := Lib.hid hm
  have HF := Lib.hid hf
  have hn : n ≤ 100 := by rw [← hr.len]; exact hf.1
  have HR := Lib.hid hr
  have HNIL := Lib.hid hnil
  obtain ⟨v, hv⟩ : ∃ v, twiceB l = v := ⟨_, rfl⟩
  have HV := Lib.hid hv
  rw [hv]
  clear hr hnil hf hm hv
  go_enter Tryz.func54, Tryz.ntmps54
  go_wp2_with (with_reducible refine wpList_alloc_tills rfl rfl ?_; intro w2 hm; refine Hid.out ?_)
  refine Lib.hid ?_
  have HT2 := Lib.hid hm
  clear hm
  go_wp2_with fail
  refine (byFrom_any w.heap.size A n c l w2 HT2.out.bel.size (HR.out.below HT2.out.bel) HNIL.out (by omega)).mono ?_
  rintro e w3 ⟨v1, m, rfl, hp, hs, hb3, hq3⟩
  obtain ⟨A1, c1, rfl, _, _⟩ := hq3.form
  have hml : m.length = n := by rw [hp.length_eq, HL.out]
  have HML := Lib.hid hml
  have HQ3 := Lib.hid hq3
  have HT3 := Lib.hid (HT2.out.next hb3)
  have HG2 : Hid (w.heap.size < w2.heap.size) := Lib.hid HT2.out.lt
  have HMM : Hid (∀ x ∈ m, MayH x ∧ x.things.length ≤ 100) := Lib.hid (fun x hx => ⟨HM.out x ((hp.mem_iff).1 hx), HF.out.2 x ((hp.mem_iff).1 hx)⟩)
  have HS := Lib.hid hs
  have HP : Hid (NoClash m ↔ NoClash l) := Lib.hid (noClash_perm hp)
  rw [hml] at HQ3 ⊢
  clear hp hs hb3 hq3 hml
  go_wp2
  go_loopw [11] (fun i wr => ∃ (k : Nat) (t : Nat → Int), k ≤ n ∧ i = .int .i64 k ∧ TillM w t wr ∧ Till m k 0 t ∧ RowQ EH 4 51 (Lt w.heap.size) w2.heap.size (.slice A1 n c1) m wr) (fun i _ => n - (intOf i).toNat)
  case atStart => exact ⟨0, _, Nat.zero_le _, rfl, HT3.out, till_zero m, HQ3.out⟩
  case round =>
    obtain ⟨k, t, hk, rfl, htm, htl, hq⟩ := hrel
    have HTM := Lib.hid htm
    have HTL := Lib.hid htl
    have HQ := Lib.hid hq
    clear htm htl hq
    by_cases hlt : k < n
    · have hkm : k < m.length := by rw [HML.out]; exact hlt
      obtain ⟨g, x, vs, e, hgb, hgl, hx, _, hc, A2, m2, c2, hvs, hrn, h1, h2, h3, h4⟩ := HQ.out.at hlt
      subst e hvs
      have hxx : m.getD k hd0 = x := by rw [List.getD, hx]; rfl
      have hxm : x ∈ m := List.mem_of_getElem? hx
      have hmay := (HMM.out x hxm).1
      have hm100 : m2 ≤ 100 := by have := (HMM.out x hxm).2; have := hrn.1; omega
      have HX : Hid (RI w w.heap.size A2 m2 x.things) := Lib.hid (RN.ri (hrn.keep ei_steady (fun b hb => (HTM.out.bel.block b hb).symm) (fun _ h => h)))
      have HXX := Lib.hid hxx
      have HMAY := Lib.hid hmay
      have HX2 := Lib.hid hrn.1
      have c0 := hc 0 _ rfl
      have c1' := hc 1 _ rfl
      have c2' := hc 2 _ rfl
      have c3' := hc 3 _ rfl
      rw [Nat.add_zero] at c0
      have hba : Below wr.heap.size wr (wr.alloc (hO x A2 m2 c2)) := (Below.refl _ _).alloc (Nat.le_refl _) _
      have HTA := Lib.hid (HTM.out.next hba)
      have HQA : Hid (RowQ EH 4 51 (Lt w.heap.size) w2.heap.size (.slice (some ⟨g, 0, none⟩) n c1) m (wr.alloc (hO x A2 m2 c2))) := Lib.hid (HQ.out.keep eh_steady (fun b hb => hba.block b (by
        rcases hb with hb | hb
        · exact Nat.lt_of_lt_of_le hb HTM.out.bel.size
        · exact (HQ.out.own b hb).2)))
      have HBX : Hid (BoxH (wr.alloc (hO x A2 m2 c2)) wr.heap.size x A2 m2 c2) := Lib.hid (boxH_new wr x A2 m2 c2)
      have HGX : Hid (w.heap.size < wr.heap.size ∧ g ≠ wr.heap.size) := Lib.hid ⟨HTM.out.lt, by omega⟩
      unfold hO at HTA HQA HBX
      obtain ⟨Wa, hWa⟩ : ∃ Wa, wr.alloc (.cells #[.int .i64 x.id, .slice A2 m2 c2, .int .i64 x.frm, .int .i64 x.to] 51) = Wa := ⟨_, rfl⟩
      rw [hWa] at HTA HQA HBX
      have q1 := HBX.out.c1
      clear hx hc hrn h1 h2 h3 h4 hba hgb hgl hxm hmay hkm hxx
      go_wp2_with (simp only [hWa])
      clear hWa q1
      go_loopw [18] (fun i wq => ∃ (j : Nat) (t : Nat → Int), j ≤ m2 ∧ i = .int .i64 j ∧ TillM w t wq ∧ Till m k j t ∧ RowQ EH 4 51 (Lt w.heap.size) w2.heap.size (.slice (some ⟨g, 0, none⟩) n c1) m wq ∧ BoxH wq wr.heap.size x A2 m2 c2) (fun i _ => m2 - (intOf i).toNat)
      case atStart => exact ⟨0, t, Nat.zero_le _, rfl, HTA.out, HTL.out, HQA.out, HBX.out⟩
      case round =>
        obtain ⟨j, t1, hj, rfl, htm, htl, hq, hbx⟩ := hrel
        have HTM1 := Lib.hid htm
        have HTL1 := Lib.hid htl
        have HQ1 := Lib.hid hq
        have HBX1 := Lib.hid hbx
        clear htm htl hq hbx
        by_cases hltj : j < m2
        · have hkm : k < m.length := by rw [HML.out]; exact hlt
          have hjl : j < (m.getD k hd0).things.length := by rw [HXX.out, HX2.out]; exact hltj
          obtain ⟨b2, o2, rfl, _, hcy⟩ := (HX.out.below HTM1.out.bel).one hltj
          have hym := right_mem HMAY.out.2.1 _ (z_mem (show j < x.things.length by rw [HX2.out]; exact hltj))
          obtain ⟨y, hy⟩ : ∃ y, x.things.getD j 0 = y := ⟨_, rfl⟩
          rw [hy] at hcy hym
          obtain ⟨q, rfl⟩ : ∃ q : Nat, y = (q : Int) := ⟨y.toNat, by omega⟩
          have hq256 : q < 256 := by omega
          have hqz : (q : Int) < 256 := by omega
          have HBAD := Lib.hid (HTL1.out.bad (fun z hz => (HMM.out z hz).1) HS.out hkm hjl)
          have HNXT := Lib.hid (HTL1.out.next (fun z hz => (HMM.out z hz).1) hkm hjl)
          rw [HXX.out, hy, Int.toNat_natCast] at HBAD HNXT
          have f2 := HBX1.out.c2
          have f3 := HBX1.out.c3
          have ht := HTM1.out.cell hq256
          have hz := HTM1.out.frozen q
          obtain ⟨tq, htq⟩ : ∃ tq, t1 q = tq := ⟨_, rfl⟩
          rw [htq] at HBAD HNXT ht
          clear hy hym hkm hjl htq
          by_cases hbad : x.frm < tq
          · have d0 : decide (x.frm < tq) = true := decide_eq_true hbad
            have HRES : Hid (v = true) := Lib.hid (by
              rw [← HV.out]
              unfold twiceB
              rw [decide_eq_false (fun h => HBAD.out hbad (HP.out.2 h))]
              rfl)
            clear hbad
            go_wp2
            go_quiet (fail)
            go_wp2
            go_ret
            exact ⟨by rw [HRES.out]; rfl, HTM1.out.bel.trans (bel_drew _ _ |>.mono (by first | exact HTM1.out.bel.size | simp))⟩
          · have d0 : decide (x.frm < tq) = false := decide_eq_false hbad
            have HN := Lib.hid (HNXT.out hbad)
            clear hbad
            go_wp2
            go_quiet (fail)
            go_wp2
            go_roundw
            case rel => exact ⟨j + 1, tset t1 q x.to, by omega, by go_num, (HTM1.out.drewN _).set _, HN.out, HQ1.out.keep eh_steady (fun b hb => by
                refine (Below.heap_setCell _ _ _ _ ?_).trans rfl
                rcases hb with hb | hb
                · exact Nat.ne_of_lt hb
                · have := (HQ1.out.own b hb).1
                  have := HG2.out
                  show b ≠ w.heap.size
                  omega), (HBX1.out.next (bel_drew _ _)).other (by have := HGX.out.1; omega)⟩
            case measure => simp [intOf]; omega
        · have hjm : j = m2 := by omega
          have HN := Lib.hid (HTL1.out.step (by rw [HML.out]; exact hlt) (by rw [HXX.out, HX2.out]; omega))
          go_wp2
          go_roundw
          case rel => exact ⟨k + 1, t1, by omega, by go_num, HTM1.out, HN.out, HQ1.out⟩
          case measure => simp [intOf]; omega
    · have hkn : k = n := by omega
      have HRES : Hid (v = false) := Lib.hid (by
        rw [← HV.out]
        unfold twiceB
        rw [decide_eq_true (HP.out.1 (HTL.out.all (by rw [HML.out]; omega)))]
        rfl)
      go_wp2
      go_ret
      exact ⟨by rw [HRES.out]; rfl, HTM.out.bel⟩

end Go.Proofs.YtpoalgkgomljmaaGreatDoor

namespace Go.Proofs.YtpoalgkgomljmaaGreatDoor
open Go.RowKit

set_option maxRecDepth 100000 in
set_option maxHeartbeats 8000000 in
theorem heldRight_any (A : Option Addr) (n c : Nat) (l : Tb) (w : World) (hr : RT w w.heap.size A n l) (hnil : A = none → c = 0) (hf : FewT l) :
    Calls Tryz.prog 25 #[.slice A n c] w fun e w' => e = .returned (.bool (rightT l)) ∧ Below w.heap.size w w' := by
  have HR0 := Lib.hid hr
  have HL := Lib.hid hr.len
  have HNIL := Lib.hid hnil
  have HF := Lib.hid hf
  have hn : n ≤ 100 := by rw [← hr.len]; exact hf.1
  obtain ⟨rv, hrv⟩ : ∃ v, rightT l = v := ⟨_, rfl⟩
  have HV := Lib.hid hrv
  rw [hrv]
  clear hr hnil hf hrv
  go_enter Tryz.func25, Tryz.ntmps25
  go_wp2
  go_loopw [10] (fun iv wr => ∃ i : Nat, i ≤ n ∧ iv = .int .i64 i ∧ RiseH l i ∧ Below w.heap.size w wr) (fun iv _ => n - (intOf iv).toNat)
  case atStart => exact ⟨0, Nat.zero_le _, rfl, rise_zero l, Below.refl _ _⟩
  case round =>
    obtain ⟨i, hi, rfl, hrp, hbel⟩ := hrel
    have HRP := Lib.hid hrp
    have HB := Lib.hid hbel
    have HR := Lib.hid (HR0.out.next hbel)
    clear hrp hbel
    by_cases hlt : i < n
    · obtain ⟨b, off, A2, m2, c2, rfl, hbl, c0, c1, c2', c3, hx⟩ := HR.out.one hlt
      obtain ⟨x, hxx⟩ : ∃ x, l.getD i hd0 = x := ⟨_, rfl⟩
      rw [hxx] at c0 c2' c3 hx
      have HXX := Lib.hid hxx
      have hil : i < l.length := by rw [HL.out]; exact hlt
      have hba : Below wr.heap.size wr (wr.alloc (hO x A2 m2 c2)) := (Below.refl _ _).alloc (Nat.le_refl _) _
      have HXa := Lib.hid (hx.next hba)
      have HRa := Lib.hid (HR.out.next hba)
      have HBa := Lib.hid (HB.out.trans (hba.mono HB.out.size))
      have HBX : Hid (BoxH (wr.alloc (hO x A2 m2 c2)) wr.heap.size x A2 m2 c2) := Lib.hid (boxH_new wr x A2 m2 c2)
      have hbl' : b < (wr.alloc (hO x A2 m2 c2)).heap.size := by simp; omega
      unfold hO at HXa HRa HBa HBX hbl'
      obtain ⟨Wa, hWa⟩ : ∃ Wa, wr.alloc (.cells #[.int .i64 x.id, .slice A2 m2 c2, .int .i64 x.frm, .int .i64 x.to] 51) = Wa := ⟨_, rfl⟩
      rw [hWa] at HXa HRa HBa HBX hbl'
      clear hx hxx hba HR HB
      have HB := Lib.hid HBa.out
      have HX := Lib.hid HXa.out
      have HR := Lib.hid HRa.out
      clear HBa HXa HRa
      by_cases hm : MayH x
      · have HMX := Lib.hid hm
        have EM : Hid (mayH x = true) := Lib.hid (decide_eq_true hm)
        clear hm
        by_cases h0 : 0 < i
        · obtain ⟨b', off', A4, m4, c4, e1, hbl2, e0, _, _, _, _⟩ := HR.out.one (show i - 1 < n by omega)
          injection e1 with e1
          injection e1 with e2 e3
          subst e2 e3
          obtain ⟨y, hy⟩ : ∃ y, (l.getD (i - 1) hd0).id = y := ⟨_, rfl⟩
          rw [hy] at e0
          have HYI := Lib.hid hy
          have g0 : decide (0 < i) = true := decide_eq_true h0
          have g1 : ((i : Int) - 1) = ((i - 1 : Nat) : Int) := by omega
          have hiz : (0 : Int) ≤ (i : Int) - 1 := by omega
          have hin : (i : Int) - 1 < (n : Int) := by omega
          clear hy hbl2
          by_cases h1 : x.id ≤ y
          · have g2 : decide (x.id ≤ y) = true := decide_eq_true h1
            have HNO : Hid (rightT l = false) := Lib.hid (RiseH.bad_id hil h0 (by rw [HXX.out, HYI.out]; exact h1))
            clear h1
            go_wp2_with (simp only [hWa])
            clear hWa c0 c1 c2' c3
            have zc0 : ∀ p : Later Wa, p.now.cell? ⟨wr.heap.size, 0, none⟩ = some (.int .i64 x.id) := fun _ => Later.cell HBX.out.lt HBX.out.c0
            have zc1 : ∀ p : Later Wa, p.now.cell? ⟨wr.heap.size, 1, none⟩ = some (.slice A2 m2 c2) := fun _ => Later.cell HBX.out.lt HBX.out.c1
            have zc2 : ∀ p : Later Wa, p.now.cell? ⟨wr.heap.size, 2, none⟩ = some (.int .i64 x.frm) := fun _ => Later.cell HBX.out.lt HBX.out.c2
            have zc3 : ∀ p : Later Wa, p.now.cell? ⟨wr.heap.size, 3, none⟩ = some (.int .i64 x.to) := fun _ => Later.cell HBX.out.lt HBX.out.c3
            have zc4 : ∀ p : Later Wa, p.now.cell? ⟨b, off + (i - 1) * 4, none⟩ = some (.int .i64 y) := fun _ => Later.cell hbl' e0
            refine wp_region_later (by kernel_rfl) (by kernel_rfl) ?_
            repeat (first | go_big_quiet_skip | (go_big_quiet_want; go_big_quiet_op; first | go_big_quiet_on | (apply Exists.intro; refine ⟨fun pz => ?_, ?_⟩; (first | (go_at_call 50; exact Calls.later_of (may_any (HX.out.next pz.bel) EM.out)) | fail); go_big_quiet_on)))
            refine wpQuiet_nil ?_
            intro _ hw'
            obtain ⟨pz, rfl⟩ := hw'
            obtain ⟨w1, hb⟩ := pz
            try dsimp only
            clear zc0 zc1 zc2 zc3 zc4
            have HBq := Lib.hid (HB.out.trans (hb.mono HB.out.size))
            clear HB
            have HB := HBq
            clear HBq
            have HXq := Lib.hid (HX.out.next hb)
            clear HX
            have HX := HXq
            clear HXq
            have HRq := Lib.hid (HR.out.next hb)
            clear HR
            have HR := HRq
            clear HRq
            clear hb
            go_wp2
            go_ret
            exact ⟨by rw [← HV.out, HNO.out]; rfl, HB.out⟩
          · have g2 : decide (x.id ≤ y) = false := decide_eq_false h1
            have HID : Hid (0 < i → (l.getD (i - 1) hd0).id < (l.getD i hd0).id) := Lib.hid (fun _ => by rw [HYI.out, HXX.out]; omega)
            clear h1
            go_wp2_with (simp only [hWa])
            clear hWa c0 c1 c2' c3
            have zc0 : ∀ p : Later Wa, p.now.cell? ⟨wr.heap.size, 0, none⟩ = some (.int .i64 x.id) := fun _ => Later.cell HBX.out.lt HBX.out.c0
            have zc1 : ∀ p : Later Wa, p.now.cell? ⟨wr.heap.size, 1, none⟩ = some (.slice A2 m2 c2) := fun _ => Later.cell HBX.out.lt HBX.out.c1
            have zc2 : ∀ p : Later Wa, p.now.cell? ⟨wr.heap.size, 2, none⟩ = some (.int .i64 x.frm) := fun _ => Later.cell HBX.out.lt HBX.out.c2
            have zc3 : ∀ p : Later Wa, p.now.cell? ⟨wr.heap.size, 3, none⟩ = some (.int .i64 x.to) := fun _ => Later.cell HBX.out.lt HBX.out.c3
            have zc4 : ∀ p : Later Wa, p.now.cell? ⟨b, off + (i - 1) * 4, none⟩ = some (.int .i64 y) := fun _ => Later.cell hbl' e0
            refine wp_region_later (by kernel_rfl) (by kernel_rfl) ?_
            repeat (first | go_big_quiet_skip | (go_big_quiet_want; go_big_quiet_op; first | go_big_quiet_on | (apply Exists.intro; refine ⟨fun pz => ?_, ?_⟩; (first | (go_at_call 50; exact Calls.later_of (may_any (HX.out.next pz.bel) EM.out)) | fail); go_big_quiet_on)))
            refine wpQuiet_nil ?_
            intro _ hw'
            obtain ⟨pz, rfl⟩ := hw'
            obtain ⟨w1, hb⟩ := pz
            try dsimp only
            clear zc0 zc1 zc2 zc3 zc4
            have HBq := Lib.hid (HB.out.trans (hb.mono HB.out.size))
            clear HB
            have HB := HBq
            clear HBq
            have HXq := Lib.hid (HX.out.next hb)
            clear HX
            have HX := HXq
            clear HXq
            have HRq := Lib.hid (HR.out.next hb)
            clear HR
            have HR := HRq
            clear HRq
            clear hb
            go_wp2
            go_roundw
            case rel => exact ⟨i + 1, by omega, by go_num, HRP.out.next (by rw [HL.out]; exact hlt) (by rw [HXX.out]; exact HMX.out) HID.out, HB.out⟩
            case measure => simp [intOf]; omega
        · have g0 : decide (0 < i) = false := decide_eq_false h0
          have HID : Hid (0 < i → (l.getD (i - 1) hd0).id < (l.getD i hd0).id) := Lib.hid (fun h => absurd h h0)
          go_wp2_with (simp only [hWa])
          clear hWa c0 c1 c2' c3
          have zc0 : ∀ p : Later Wa, p.now.cell? ⟨wr.heap.size, 0, none⟩ = some (.int .i64 x.id) := fun _ => Later.cell HBX.out.lt HBX.out.c0
          have zc1 : ∀ p : Later Wa, p.now.cell? ⟨wr.heap.size, 1, none⟩ = some (.slice A2 m2 c2) := fun _ => Later.cell HBX.out.lt HBX.out.c1
          have zc2 : ∀ p : Later Wa, p.now.cell? ⟨wr.heap.size, 2, none⟩ = some (.int .i64 x.frm) := fun _ => Later.cell HBX.out.lt HBX.out.c2
          have zc3 : ∀ p : Later Wa, p.now.cell? ⟨wr.heap.size, 3, none⟩ = some (.int .i64 x.to) := fun _ => Later.cell HBX.out.lt HBX.out.c3
          refine wp_region_later (by kernel_rfl) (by kernel_rfl) ?_
          repeat (first | go_big_quiet_skip | (go_big_quiet_want; go_big_quiet_op; first | go_big_quiet_on | (apply Exists.intro; refine ⟨fun pz => ?_, ?_⟩; (first | (go_at_call 50; exact Calls.later_of (may_any (HX.out.next pz.bel) EM.out)) | fail); go_big_quiet_on)))
          refine wpQuiet_nil ?_
          intro _ hw'
          obtain ⟨pz, rfl⟩ := hw'
          obtain ⟨w1, hb⟩ := pz
          try dsimp only
          clear zc0 zc1 zc2 zc3
          have HBq := Lib.hid (HB.out.trans (hb.mono HB.out.size))
          clear HB
          have HB := HBq
          clear HBq
          have HXq := Lib.hid (HX.out.next hb)
          clear HX
          have HX := HXq
          clear HXq
          have HRq := Lib.hid (HR.out.next hb)
          clear HR
          have HR := HRq
          clear HRq
          clear hb
          go_wp2
          go_roundw
          case rel => exact ⟨i + 1, by omega, by go_num, HRP.out.next (by rw [HL.out]; exact hlt) (by rw [HXX.out]; exact HMX.out) HID.out, HB.out⟩
          case measure => simp [intOf]; omega
      · have EM : Hid (mayH x = false) := Lib.hid (decide_eq_false hm)
        have HNO : Hid (rightT l = false) := Lib.hid (RiseH.bad_may hil (by rw [HXX.out]; exact EM.out))
        clear hm
        go_wp2_with (simp only [hWa])
        clear hWa c0 c1 c2' c3
        have zc0 : ∀ p : Later Wa, p.now.cell? ⟨wr.heap.size, 0, none⟩ = some (.int .i64 x.id) := fun _ => Later.cell HBX.out.lt HBX.out.c0
        have zc1 : ∀ p : Later Wa, p.now.cell? ⟨wr.heap.size, 1, none⟩ = some (.slice A2 m2 c2) := fun _ => Later.cell HBX.out.lt HBX.out.c1
        have zc2 : ∀ p : Later Wa, p.now.cell? ⟨wr.heap.size, 2, none⟩ = some (.int .i64 x.frm) := fun _ => Later.cell HBX.out.lt HBX.out.c2
        have zc3 : ∀ p : Later Wa, p.now.cell? ⟨wr.heap.size, 3, none⟩ = some (.int .i64 x.to) := fun _ => Later.cell HBX.out.lt HBX.out.c3
        refine wp_region_later (by kernel_rfl) (by kernel_rfl) ?_
        repeat (first | go_big_quiet_skip | (go_big_quiet_want; go_big_quiet_op; first | go_big_quiet_on | (apply Exists.intro; refine ⟨fun pz => ?_, ?_⟩; (first | (go_at_call 50; exact Calls.later_of (may_any (HX.out.next pz.bel) EM.out)) | fail); go_big_quiet_on)))
        refine wpQuiet_nil ?_
        intro _ hw'
        obtain ⟨pz, rfl⟩ := hw'
        obtain ⟨w1, hb⟩ := pz
        try dsimp only
        clear zc0 zc1 zc2 zc3
        have HBq := Lib.hid (HB.out.trans (hb.mono HB.out.size))
        clear HB
        have HB := HBq
        clear HBq
        have HXq := Lib.hid (HX.out.next hb)
        clear HX
        have HX := HXq
        clear HXq
        have HRq := Lib.hid (HR.out.next hb)
        clear HR
        have HR := HRq
        clear HRq
        clear hb
        go_wp2
        go_ret
        exact ⟨by rw [← HV.out, HNO.out]; rfl, HB.out⟩
    · have hin : i = n := by omega
      have hil : i = l.length := by rw [HL.out]; exact hin
      have HRE : Hid (RiseH l l.length) := Lib.hid (by rw [← hil]; exact HRP.out)
      have HE : Hid (rv = !twiceB l) := Lib.hid (by rw [← HV.out]; exact HRE.out.end (by rw [HL.out]; omega))
      clear hil
      go_wp2_with fail
      refine (twice_any A n c l wr HR.out HNIL.out HF.out (fun x hx => HRE.out.may x (by rw [List.take_length]; exact hx))).mono ?_
      rintro e w2 ⟨rfl, hb⟩
      have HB2 := Lib.hid (HB.out.trans (hb.mono HB.out.size))
      obtain ⟨tv, htv⟩ : ∃ v, twiceB l = v := ⟨_, rfl⟩
      rw [htv] at HE ⊢
      clear hb htv
      go_wp2
      go_ret
      exact ⟨by rw [HE.out]; rfl, HB2.out⟩
theorem heldRight_b {A : Option Addr} {n c : Nat} {l : Tb} {w : World} {v : Bool} (hr : RT w w.heap.size A n l) (hnil : A = none → c = 0) (hf : FewT l) (h : rightT l = v) :
    Calls Tryz.prog 25 #[.slice A n c] w fun e w' => e = .returned (.bool v) ∧ Below w.heap.size w w' := by
  subst h; exact heldRight_any A n c l w hr hnil hf

end Go.Proofs.YtpoalgkgomljmaaGreatDoor

namespace Go.Proofs.YtpoalgkgomljmaaGreatDoor
open Go.RowKit

/-- the cells of marks -/
def hmarksA (p : Nat → Bool) : Array Value := ((List.range 256).map fun k => Value.bool (p k)).toArray
theorem hmarksA_size (p : Nat → Bool) : (hmarksA p).size = 256 := by unfold hmarksA; simp
theorem hmarksA_at (p : Nat → Bool) {k : Nat} (hk : k < 256) : (hmarksA p)[k]? = some (.bool (p k)) := by unfold hmarksA; simp [hk]
/-- one mark more, or less -/
def hmset (p : Nat → Bool) (k : Nat) (b : Bool) : Nat → Bool := fun j => if j = k then b else p j
theorem hmset_same (p : Nat → Bool) (k : Nat) (b : Bool) : hmset p k b k = b := by unfold hmset; rw [if_pos rfl]
theorem hmset_other (p : Nat → Bool) {k j : Nat} (b : Bool) (h : j ≠ k) : hmset p k b j = p j := by unfold hmset; rw [if_neg h]
theorem hmarksA_set (p : Nat → Bool) (k : Nat) (b : Bool) : (hmarksA p).setIfInBounds k (.bool b) = hmarksA (hmset p k b) := by
  apply Array.ext
  · simp [hmarksA_size]
  · intro j h1 h2
    rw [hmarksA_size] at h2
    have e2 := hmarksA_at (hmset p k b) h2
    rw [Array.getElem?_eq_getElem (by rw [hmarksA_size]; exact h2)] at e2
    have e2' := Option.some.inj e2
    rw [e2', Array.getElem_setIfInBounds (by rw [hmarksA_size]; exact h2)]
    split
    · rename_i h; subst h; rw [hmset_same]
    · rename_i h
      have e1 := hmarksA_at p h2
      rw [Array.getElem?_eq_getElem (by rw [hmarksA_size]; exact h2)] at e1
      rw [Option.some.inj e1, hmset_other _ _ (fun e => h e.symm)]
theorem hmarksA_ext {p q : Nat → Bool} (h : ∀ k, k < 256 → p k = q k) : hmarksA p = hmarksA q := by
  unfold hmarksA
  congr 1
  apply List.map_congr_left
  intro k hk
  rw [h k (List.mem_range.1 hk)]

theorem hmarks_closed : (Tryz.prog.info? 96).map (fun i => (i.zero.map Value.cells, i.size)) = some (some (hmarksA fun _ => false), 256) := by kernel_rfl
theorem hmarks_size : (Tryz.prog.info? 96).map (·.size) = some 256 := by kernel_rfl

/-- marks in a new block, behind a world -/
structure HMarks (W : World) (p : Nat → Bool) (wr : World) : Prop where
  bel : Below W.heap.size W wr
  at' : wr.heap[W.heap.size]? = some (.cells (hmarksA p) 96 (0, 0))
section
variable {W wr w' : World} {p : Nat → Bool} {k : Nat}
theorem HMarks.lt (h : HMarks W p wr) : W.heap.size < wr.heap.size := (Array.getElem?_eq_some_iff.1 h.at').1
theorem HMarks.cell (h : HMarks W p wr) (hk : k < 256) : wr.cell? ⟨W.heap.size, k, none⟩ = some (.bool (p k)) := by
  rw [cell_of_row _ _ _ _ _ _ h.at', hmarksA_at p hk]
theorem HMarks.frozen (h : HMarks W p wr) (k : Nat) : wr.frozen? ⟨W.heap.size, k, none⟩ = false := frozen_of_row _ _ _ _ _ h.at'
theorem HMarks.next (h : HMarks W p wr) (hb : Below wr.heap.size wr w') : HMarks W p w' := ⟨h.bel.trans (hb.mono h.bel.size), (hb.block _ h.lt).trans h.at'⟩
theorem HMarks.drewN (h : HMarks W p wr) (q : Nat) : HMarks W p (wr.drewN q) := h.next (bel_drew wr q)
theorem HMarks.set (h : HMarks W p wr) (b : Bool) : HMarks W (hmset p k b) (wr.setCell ⟨W.heap.size, k, none⟩ (.bool b)) := by
  refine ⟨h.bel.setCell (Nat.le_refl _) _, ?_⟩
  rw [heap_setCell_same wr W.heap.size k _ _ _ h.at', hmarksA_set]
theorem HMarks.ext {q : Nat → Bool} (h : HMarks W p wr) (he : ∀ k, k < 256 → p k = q k) : HMarks W q wr := ⟨h.bel, by rw [h.at', hmarksA_ext he]⟩
theorem hmarks_made (W : World) : HMarks W (fun _ => false) (W.alloc (.cells (hmarksA fun _ => false) 96)) :=
  ⟨(Below.refl _ _).alloc (Nat.le_refl _) _, heap_alloc_new W _⟩
theorem hmarks_boxed (W : World) (p : Nat → Bool) : HMarks W p (W.alloc (.cells (hmarksA p) 96)) :=
  ⟨(Below.refl _ _).alloc (Nat.le_refl _) _, heap_alloc_new W _⟩
end

/-- 'var in marks' -/
theorem wpList_alloc_hmarks {ops : Array Oper} {rest : List Oper} {o : Oper} {a : Act} {Q : Exit → Act → World → Prop} {w : World} (hgd : o.guard = none) (ho : o.op = .alloc 96)
    (h : ∀ w', HMarks w (fun _ => false) w' → wpList Tryz.prog ops Q rest (a.put o.dst (.pointer (some ⟨w.heap.size, 0, none⟩))) w') : wpList Tryz.prog ops Q (o :: rest) a w := by
  refine wpList_plain hgd fun K hK => ?_
  have hc := hmarks_closed
  cases hi : Tryz.prog.info? 96 with
  | none => rw [hi] at hc; cases hc
  | some i =>
    rw [hi] at hc
    simp only [Option.map_some, Option.some.injEq, Prod.mk.injEq] at hc
    obtain ⟨z, hz, hzc⟩ : ∃ z, i.zero = some z ∧ z.cells = hmarksA fun _ => false := by
      cases hz : i.zero with
      | none => rw [hz] at hc; cases hc.1
      | some z => rw [hz] at hc; exact ⟨z, rfl, Option.some.inj hc.1⟩
    have hrun : (Instr.alloc 96 true (.tuple #[])).run Tryz.prog w = .ok (.pointer (some ⟨w.heap.size, 0, none⟩)) (w.alloc (.cells (hmarksA fun _ => false) 96)) := by
      simp [Instr.alloc, zeroValue, typeInfo, hi, hz, newVar, newRow, hzc]
    unfold Oper.wp
    simp [execOp, ho, hrun, Result.andThen]
    exact hK _ _ (h _ (hmarks_made w))
/-- 'in', as a value -/
theorem wpList_load_hmarks {ops : Array Oper} {rest : List Oper} {o : Oper} {a : Act} {Q : Exit → Act → World → Prop} {W w : World} {p : Nat → Bool} (hgd : o.guard = none) (x : Operand) (ho : o.op = .load 96 x)
    (hm : HMarks W p w) (hx : a.eval x = .pointer (some ⟨W.heap.size, 0, none⟩))
    (h : wpList Tryz.prog ops Q rest (a.put o.dst (.agg (hmarksA p))) w) : wpList Tryz.prog ops Q (o :: rest) a w :=
  wpList_load_row hgd _ x ho W.heap.size hx _ (hmarksA p) (0, 0) _ hm.at' Tryz.underlying96 rfl (by rw [hmarks_size, hmarksA_size]) h
/-- a mark of a value of marks -/
theorem run_ix_hmarks (p : Nat → Bool) {k : Nat} (hk : k < 256) (W : World) : (Instr.index 96 (.agg (hmarksA p)) (.int .i64 (k : Int))).run Tryz.prog W = .ok (.bool (p k)) W := by
  have h1 := hmarksA_at p hk
  have h2 : k < 256 := hk
  simp [Instr.index, run_underlying Tryz.underlying96, asIntOf, part, isAgg, run_underlying Tryz.underlying4, Tryz.sizeOf4, h1, h2]

end Go.Proofs.YtpoalgkgomljmaaGreatDoor

namespace Go.Proofs.YtpoalgkgomljmaaGreatDoor
open Go.RowKit

theorem append_EI {P : Program} {ops : Array Oper} {rest : List Oper} {o : Oper} {a : Act} {Q : Exit → Act → World → Prop} {w wr : World} {v : Value} {xs : List Int} (hgd : o.guard = none) (s x : Operand) (ty t : TypeId)
    (ho : o.op = .call { callee := .builtin .append, args := #[s, x], argTypes := #[ty, ty] })
    (h : ON EI 1 t w v xs wr) (i : TypeInfo) (ht : P.underlying ty = some (.slice t)) (hi : P.info? t = some i) (hz : i.zero = some (.int .i64 0)) (hsize : i.size = 1) (hby : i.bytes = 8)
    (hs : a.eval s = v) (x0 : Int) (hx : a.eval x = .slice (some ⟨wr.heap.size, 0, none⟩) 1 1) (hl : xs.length ≤ 1000)
    (hk : ∀ v' w', ON EI 1 t w v' (xs ++ [x0]) w' → wpList P ops Q rest (a.put o.dst v') w') : wpList P ops Q (o :: rest) a (wr.alloc (.cells #[.int .i64 x0] t)) :=
  wpList_append_ON hgd s x ty ho ei_steady h i (.int .i64 0) 8 ht hi hz hsize hby rfl (by decide) hs x0 #[.int .i64 x0] hx rfl (by intro u hu; simp at hu; subst hu; rfl) rfl (by unfold maxLen; omega) (by omega) hk
theorem EH.things {w : World} {ok : Nat → Prop} {x : Hd} {A : Option Addr} {m c : Nat} {a b d : Value} (h : EH w ok x [a, .slice A m c, b, d]) : RN EI 1 w ok A m x.things := by
  obtain ⟨A', m', c', hv, hr, _⟩ := h
  injection hv with _ hv
  injection hv with hv _
  injection hv with e1 e2 e3
  subst e1 e2 e3
  exact hr
theorem busyP_succ {l : Tb} {k : Nat} (hk : k < l.length) (a b n : Int) : busyP (l.take (k + 1)) a b n = (busyP (l.take k) a b n || (meetsZ (l.getD k hd0).frm (l.getD k hd0).to a b && (l.getD k hd0).things.contains n)) := by
  unfold busyP
  rw [List.take_succ_eq_append_getElem hk, List.any_append, getD_at hk]
  simp
theorem take_contains {xs : List Int} {j : Nat} (hj : j < xs.length) (n : Int) : (xs.take (j + 1)).contains n = ((xs.take j).contains n || (n == xs.getD j 0)) := by
  rw [List.take_succ_eq_append_getElem hj, z_at hj, Bool.eq_iff_iff, Bool.or_eq_true, List.contains_iff_mem, List.contains_iff_mem, List.mem_append, List.mem_singleton, beq_iff_eq]
theorem busy_list {l : Tb} (hr : rightT l = true) (a b : Int) : numsF (fun i => busyP l a b (i : Int)) 256 = busyT l a b := by
  unfold busyT pickL
  rw [if_pos hr, numsF_pick _ _ (Nat.le_refl _)]
  refine right_ext (right_pickL (fun x => decide (0 ≤ x) && busyP l a b (x.toNat : Int))) (right_pickL (busyP l a b)) fun n => ?_
  show n ∈ pickL _ ↔ n ∈ pickL _
  rw [mem_pickL, mem_pickL]
  constructor
  · rintro ⟨h1, h2, h3⟩
    rw [Bool.and_eq_true, decide_eq_true_eq] at h3
    rw [Int.toNat_of_nonneg h1] at h3
    exact ⟨h1, h2, h3.2⟩
  · rintro ⟨h1, h2, h3⟩
    refine ⟨h1, h2, ?_⟩
    rw [Bool.and_eq_true, decide_eq_true_eq, Int.toNat_of_nonneg h1]
    exact ⟨h1, h3⟩

set_option maxRecDepth 100000 in
set_option maxHeartbeats 8000000 in
theorem busy_any (A : Option Addr) (n c : Nat) (l : Tb) (a b : Int) (w : World) (hr : RT w w.heap.size A n l) (hf : FewT l) (hrt : rightT l = true) :
    Calls Tryz.prog 46 #[.slice A n c, .int .i64 a, .int .i64 b] w (IPost (busyT l a b) w) := by
  obtain ⟨i0, hi0, hz0, hz1, hz2⟩ := info_parts int_info
  have HL := Lib.hid hr.len
  have HR := Lib.hid hr
  have hn : n ≤ 100 := by rw [← hr.len]; exact hf.1
  have HF := Lib.hid hf
  have HRT := Lib.hid (rightT_is.1 hrt)
  have HE := Lib.hid (busy_list hrt a b)
  rw [← HE.out]
  obtain ⟨p, hp⟩ : ∃ p : Nat → Bool, (fun i : Nat => busyP l a b (i : Int)) = p := ⟨_, rfl⟩
  have HP : Hid (∀ i : Nat, p i = busyP l a b (i : Int)) := Lib.hid (fun i => by rw [← hp])
  rw [hp]
  clear hr hf hrt hp
  go_enter Tryz.func46, Tryz.ntmps46
  go_wp2_with (with_reducible refine wpList_alloc_hmarks rfl rfl ?_; intro w2 hm; refine Hid.out ?_)
  refine Lib.hid ?_
  have HM2 := Lib.hid hm
  clear hm
  go_wp2
  go_loopw [17] (fun i wr => ∃ k : Nat, k ≤ n ∧ i = .int .i64 k ∧ HMarks w (fun i => busyP (l.take k) a b (i : Int)) wr) (fun i _ => n - (intOf i).toNat)
  case atStart => exact ⟨0, Nat.zero_le _, rfl, HM2.out.ext (fun k _ => by simp [busyP])⟩
  case round =>
    obtain ⟨k, hk, rfl, hm⟩ := hrel
    have HM := Lib.hid hm
    clear hm
    by_cases hlt : k < n
    · have hkl : k < l.length := by rw [HL.out]; exact hlt
      obtain ⟨b1, off, A2, m2, c2, rfl, hbl, c0, c1, c2', c3, hel⟩ := RT.el (HR.out.below HM.out.bel) hlt
      have hx := RN.ri (hel.things.keep ei_steady (fun b hb => (HM.out.bel.block b hb).symm) (fun _ h => h))
      have hsucc := busyP_succ hkl a b
      have hxm := HRT.out.may _ (List.getElem_mem hkl)
      rw [← getD_at hkl] at hxm
      obtain ⟨x, hxx⟩ : ∃ x, l.getD k hd0 = x := ⟨_, rfl⟩
      rw [hxx] at c0 c2' c3 hx hsucc hxm hel
      have HSU := Lib.hid hsucc
      have HXM := Lib.hid hxm
      have hm100 : m2 ≤ 100 := by have := HF.out.at hkl; rw [hxx] at this; have := hx.1; omega
      have hba : Below wr.heap.size wr (wr.alloc (hO x A2 m2 c2)) := (Below.refl _ _).alloc (Nat.le_refl _) _
      have HX : Hid (RI w w.heap.size A2 m2 x.things) := Lib.hid hx
      have HMa := Lib.hid (HM.out.next hba)
      have HBX : Hid (BoxH (wr.alloc (hO x A2 m2 c2)) wr.heap.size x A2 m2 c2) := Lib.hid (boxH_new wr x A2 m2 c2)
      unfold hO at HMa HBX
      obtain ⟨Wa, hWa⟩ : ∃ Wa, wr.alloc (.cells #[.int .i64 x.id, .slice A2 m2 c2, .int .i64 x.frm, .int .i64 x.to] 51) = Wa := ⟨_, rfl⟩
      rw [hWa] at HMa HBX
      have q2 := HBX.out.c2
      have q3 := HBX.out.c3
      clear hx hel hxx hba hbl hsucc hxm hkl HM
      cases hme : meetsZ x.frm x.to a b with
      | false =>
        have EM := Lib.hid hme
        go_wp2_with (simp only [hWa])
        clear hWa c0 c1 c2' c3
        refine (meets_any EM.out).mono ?_
        rintro e w5 ⟨rfl, hb⟩
        have HM5 := Lib.hid (HMa.out.next hb)
        clear hb q2 q3
        go_wp2
        go_roundw
        case rel => exact ⟨k + 1, by omega, by go_num, HM5.out.ext (fun i _ => by rw [HSU.out, EM.out, Bool.false_and, Bool.or_false])⟩
        case measure => simp [intOf]; omega
      | true =>
        have EM := Lib.hid hme
        go_wp2_with (simp only [hWa])
        clear hWa c0 c1 c2' c3
        refine (meets_any EM.out).mono ?_
        rintro e w5 ⟨rfl, hb⟩
        have HM5 := Lib.hid (HMa.out.next hb)
        have HBX5 := Lib.hid (HBX.out.next hb)
        clear hb q2 q3
        have q1 := HBX5.out.c1
        go_wp2
        clear q1
        go_loopw [32] (fun i wq => ∃ j : Nat, j ≤ m2 ∧ i = .int .i64 j ∧ HMarks w (fun i => busyP (l.take k) a b (i : Int) || (x.things.take j).contains (i : Int)) wq) (fun i _ => m2 - (intOf i).toNat)
        case atStart => exact ⟨0, Nat.zero_le _, rfl, HM5.out.ext (fun i _ => by simp)⟩
        case round =>
          obtain ⟨j, hj, rfl, hm⟩ := hrel
          have HMq := Lib.hid hm
          clear hm
          by_cases hltj : j < m2
          · have hjl : j < x.things.length := by rw [HX.out.1]; exact hltj
            obtain ⟨b2, o2, rfl, _, hcy⟩ := (HX.out.below HMq.out.bel).one hltj
            have hym := right_mem HXM.out.2.1 _ (z_mem hjl)
            have htc := take_contains hjl
            obtain ⟨y, hy⟩ : ∃ y, x.things.getD j 0 = y := ⟨_, rfl⟩
            rw [hy] at hcy hym htc
            obtain ⟨q, rfl⟩ : ∃ q : Nat, y = (q : Int) := ⟨y.toNat, by omega⟩
            have hq256 : q < 256 := by omega
            have hqz : (q : Int) < 256 := by omega
            have HTC := Lib.hid htc
            have ht := HMq.out.cell hq256
            have hz := HMq.out.frozen q
            have HMN : Hid (HMarks w (fun i => busyP (l.take k) a b (i : Int) || (x.things.take (j + 1)).contains (i : Int)) (wr.setCell ⟨w.heap.size, q, none⟩ (.bool true))) := Lib.hid ((HMq.out.set true).ext (fun i _ => by
              rw [HTC.out]
              by_cases e : i = q
              · subst e; rw [hmset_same]; simp
              · rw [hmset_other _ _ e, show ((i : Int) == (q : Int)) = false from beq_eq_false_iff_ne.2 (by omega), Bool.or_false]))
            clear hy hym htc hjl
            go_wp2
            go_roundw
            case rel => exact ⟨j + 1, by omega, by go_num, HMN.out⟩
            case measure => simp [intOf]; omega
          · have hjm : j = m2 := by omega
            have HFIN : Hid (HMarks w (fun i => busyP (l.take (k + 1)) a b (i : Int)) wr) := Lib.hid (HMq.out.ext (fun i _ => by rw [HSU.out, EM.out, Bool.true_and, List.take_of_length_le (l := x.things) (by rw [HX.out.1]; omega)]))
            go_wp2
            go_roundw
            case rel => exact ⟨k + 1, by omega, by go_num, HFIN.out⟩
            case measure => simp [intOf]; omega
    · have hkn : k = n := by omega
      have HM1 : Hid (HMarks w p wr) := Lib.hid (HM.out.ext (fun i _ => by rw [HP.out, List.take_of_length_le (by rw [HL.out]; omega)]))
      have HB1 := Lib.hid HM1.out.bel
      clear HM
      go_wp2_with (with_reducible refine wpList_load_hmarks rfl _ rfl HM1.out rfl ?_; refine Hid.out ?_)
      refine Lib.hid ?_
      go_wp2
      obtain ⟨wm, hwm⟩ : ∃ wm, wr = wm := ⟨_, rfl⟩
      subst hwm
      go_loopw [12, 41] (fun v i wx => ∃ k : Nat, k ≤ 256 ∧ i = .int .i64 k ∧ ON EI 1 3 wr v (numsF p k) wx) (fun _ i _ => 256 - (intOf i).toNat)
      case atStart => exact ⟨0, Nat.zero_le _, rfl, ON.nil _⟩
      case round =>
        obtain ⟨k, hk, rfl, hf⟩ := hrel
        have HO := Lib.hid hf
        clear hf
        by_cases hlt : k < 256
        · have hlen : Hid ((numsF p k).length ≤ 1000) := Lib.hid (by have := numsF_len p k; omega)
          have hix := run_ix_hmarks p hlt
          cases hp : p k with
          | true =>
            have HS := Lib.hid (numsF_yes hp)
            rw [hp] at hix
            clear hp
            go_wp2_with (at_builtin; refine append_EI rfl (.tmp 46) (.tmp 48) 23 3 rfl HO.out i0 Tryz.underlying23 hi0 hz0 hz1 hz2 rfl _ rfl hlen.out ?_; intro v' w4 hON4; refine Hid.out ?_)
            refine Lib.hid ?_
            have HO4 := Lib.hid hON4
            clear hON4 hix
            go_wp2
            go_roundw
            case rel => exact ⟨k + 1, by omega, by go_num, by rw [HS.out]; exact HO4.out⟩
            case measure => simp [intOf]; omega
          | false =>
            have HS := Lib.hid (numsF_no hp)
            rw [hp] at hix
            clear hp
            go_wp2
            go_roundw
            case rel => exact ⟨k + 1, by omega, by go_num, by rw [HS.out]; exact HO.out⟩
            case measure => simp [intOf]; omega
        · have hkn : k = 256 := by omega
          subst hkn
          go_wp2
          go_ret
          exact HO.out.ipost.trans HB1.out

end Go.Proofs.YtpoalgkgomljmaaGreatDoor
