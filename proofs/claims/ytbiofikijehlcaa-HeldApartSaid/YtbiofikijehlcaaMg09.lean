/- Plain facts: what is added, dropped, got, cut short, told by the place where a number stands; rows of cells, one more or one less. Go's slices.SortFunc of holdings at this dump, by the library's contract. The program's byFrom: a table's holdings in a new row, the earlier ones first. Words for memory: an array of 256 numbers in a block of its own (till when each thing is held): made, marked, loaded whole, asked at a place. The program's twice: is a thing held twice at a time, by holdings each of which may be. The program's Right of layer 10. Written by gen/gen_heldpright.py. Words for memory: an array of 256 bools in a block of its own (what is busy): made, marked, loaded whole, asked at a place. -/
import Derived.Test.YtbiofikijehlcaaMg08
import Derived.Shelf.SlSortCmp.WholeK
import Derived.Shelf.SlSortCmp.NoneTotal
import Derived.Test.YtbiofikijehlcaaProg
import Derived.IntWalk
import Derived.Laws.Rows
import Derived.Test.YtbiofikijehlcaaMg07
import Derived.Test.YtbiofikijehlcaaMg03
namespace Go.Proofs.Ytbiofikijehlcaa
open Go.RowKit

section
variable {l : Tb} {id z : Int} {K : Nat} {h : Hd}
theorem ids_lt (hi : l.Pairwise fun a b => a.id < b.id) {q r : Nat} (h1 : q < r) (h2 : r < l.length) : (l.getD q hd0).id < (l.getD r hd0).id := by
  have h3 := List.pairwise_iff_getElem.1 hi q r (by omega) h2 h1
  rwa [← getD_at, ← getD_at] at h3
theorem here_has (hi : l.Pairwise fun a b => a.id < b.id) (hs : Stands l id K) : hereB l id K = hasT l id := by
  unfold hereB
  rw [Bool.eq_iff_iff, Bool.and_eq_true, decide_eq_true_eq, decide_eq_true_eq, has_iff_id]
  constructor
  · rintro ⟨h1, h2⟩
    exact ⟨_, List.getElem_mem h1, by rw [← getD_at h1]; exact h2⟩
  · rintro ⟨x, hx, e⟩
    obtain ⟨q, hq, rfl⟩ := List.getElem_of_mem hx
    rw [← getD_at hq] at e
    have h1 : K ≤ q := by
      rcases Nat.lt_or_ge q K with h' | h'
      · have := hs.low q h'; omega
      · exact h'
    have hK : K < l.length := by omega
    refine ⟨hK, ?_⟩
    rcases Nat.eq_or_lt_of_le h1 with e1 | e1
    · subst e1; exact e
    · have h2 := hs.high K (Nat.le_refl _) hK
      have h3 := ids_lt hi e1 hq
      omega
theorem take_low (hs : Stands l id K) : ∀ x ∈ l.take K, x.id < id := by
  intro x hx
  obtain ⟨q, hq, rfl⟩ := List.getElem_of_mem hx
  rw [List.length_take] at hq
  have := hs.low q (by omega)
  rw [getD_at (show q < l.length by omega)] at this
  rwa [List.getElem_take]
theorem drop_high (hs : Stands l id K) (hn : ∀ x ∈ l, x.id ≠ id) : ∀ x ∈ l.drop K, id < x.id := by
  intro x hx
  have hm := hn x (List.mem_of_mem_drop hx)
  obtain ⟨q, hq, rfl⟩ := List.getElem_of_mem hx
  rw [List.length_drop] at hq
  rw [List.getElem_drop] at hm ⊢
  have := hs.high (K + q) (by omega) (by omega)
  rw [getD_at (show K + q < l.length by omega)] at this
  omega
theorem ins_at (hs : Stands l h.id K) (hn : ∀ x ∈ l, x.id ≠ h.id) : insT l h = l.take K ++ h :: l.drop K := by
  unfold insT
  have hl := take_low hs
  have hd := drop_high hs hn
  conv => lhs; rw [← List.take_append_drop K l]
  rw [List.filter_append, List.filter_append]
  rw [List.filter_eq_self.2 (fun x hx => decide_eq_true (hl x hx)), List.filter_eq_nil_iff.2 (fun x hx => by have := hd x hx; rw [decide_eq_true_eq]; omega), List.append_nil,
    List.filter_eq_nil_iff.2 (fun x hx => by have := hl x hx; rw [decide_eq_true_eq]; omega), List.nil_append, List.filter_eq_self.2 (fun x hx => decide_eq_true (hd x hx))]
theorem here_facts (hh : hereB l id K = true) : K < l.length ∧ (l.getD K hd0).id = id := by
  unfold hereB at hh
  rw [Bool.and_eq_true, decide_eq_true_eq, decide_eq_true_eq] at hh
  exact hh
theorem after_high (hi : l.Pairwise fun a b => a.id < b.id) (hh : hereB l id K = true) : ∀ x ∈ l.drop (K + 1), id < x.id := by
  obtain ⟨hK, e⟩ := here_facts hh
  intro x hx
  obtain ⟨q, hq, rfl⟩ := List.getElem_of_mem hx
  rw [List.length_drop] at hq
  rw [List.getElem_drop]
  have := ids_lt hi (show K < K + 1 + q by omega) (by omega)
  rw [getD_at (show K + 1 + q < l.length by omega)] at this
  omega
theorem split_at (hK : K < l.length) : l = l.take K ++ (l.getD K hd0 :: l.drop (K + 1)) := by
  rw [getD_at hK, ← List.drop_eq_getElem_cons hK, List.take_append_drop]
theorem drop_at (hi : l.Pairwise fun a b => a.id < b.id) (hs : Stands l id K) (hh : hereB l id K = true) : l.filter (fun x => x.id != id) = l.take K ++ l.drop (K + 1) := by
  obtain ⟨hK, e⟩ := here_facts hh
  have hl := take_low hs
  have hd := after_high hi hh
  conv => lhs; rw [split_at hK]
  rw [List.filter_append, List.filter_cons, if_neg (by rw [e]; simp), List.filter_eq_self.2 (fun x hx => bne_iff_ne.2 (by have := hl x hx; omega)), List.filter_eq_self.2 (fun x hx => bne_iff_ne.2 (by have := hd x hx; omega))]
theorem cut_at (hi : l.Pairwise fun a b => a.id < b.id) (hs : Stands l id K) (hh : hereB l id K = true) : l.map (shortH id z) = l.set K ⟨(l.getD K hd0).id, (l.getD K hd0).things, (l.getD K hd0).frm, z⟩ := by
  obtain ⟨hK, e⟩ := here_facts hh
  have hl := take_low hs
  have hd := after_high hi hh
  conv => lhs; rw [split_at hK]
  rw [List.map_append, List.map_cons]
  rw [List.map_congr_left (l := l.take K) (g := fun x => x) (fun x hx => by unfold shortH; rw [if_neg (by have := hl x hx; omega)]), List.map_congr_left (l := l.drop (K + 1)) (g := fun x => x) (fun x hx => by unfold shortH; rw [if_neg (by have := hd x hx; omega)]), List.map_id', List.map_id', show shortH id z (l.getD K hd0) = ⟨(l.getD K hd0).id, (l.getD K hd0).things, (l.getD K hd0).frm, z⟩ by unfold shortH; rw [if_pos e]]
  obtain ⟨y, hy⟩ : ∃ y : Hd, (⟨(l.getD K hd0).id, (l.getD K hd0).things, (l.getD K hd0).frm, z⟩ : Hd) = y := ⟨_, rfl⟩
  rw [hy]
  rw [List.set_eq_take_append_cons_drop, if_pos hK]
theorem get_at (hr : rightT l = true) (hh : hereB l id K = true) : getT l id = l.getD K hd0 := by
  obtain ⟨hK, e⟩ := here_facts hh
  rw [← e]
  exact get_is hr (by rw [getD_at hK]; exact List.getElem_mem hK)
end
section
variable {base : Nat} {w w6 w7 : World} {v v' : Value} {l l' : Tb} {n : Nat} {fl' : List Value}
/-- a row behind an Insert or a Delete, as a table -/
theorem ins_on (hb : Below w.heap.size w w6) (hq : w7.ownsRow w.heap.size 36 4 v' n fl') (h2 : Below w.heap.size w6 w7) (hk : Keeps w6 v w7 v') (hl : l'.length = n)
    (hE : ∀ j x, l'[j]? = some x → EH w6 (fun b => b < w6.heap.size ∧ v.ownBlock ≠ some b) x ((fl'.drop (j * 4)).take 4)) : ON EH 4 36 w v' l' w7 := by
  refine ⟨fl', by rw [hl]; exact hq, hb.trans h2, fun j x hx => eh_steady.keep (hE j x hx) (fun b hb => hk.block b hb.1 hb.2) (fun b hb => ⟨Nat.lt_of_lt_of_le hb.1 hk.size, fun e => ?_⟩)⟩
  rcases hk.own with h' | h'
  · exact hb.2 (h'.symm.trans e)
  · have := h' b e; omega
theorem take_flat {fl : List Value} {i j : Nat} (h : j < i) : ((fl.take (i * 4)).drop (j * 4)).take 4 = (fl.drop (j * 4)).take 4 := by
  rw [List.drop_take, List.take_take, Nat.min_eq_left (by omega)]
theorem ins_cells {fl : List Value} {v0 v1 v2 v3 : Value} {h : Hd} {K : Nat} {ok : Nat → Prop} (hfl : fl.length = l.length * 4) (hK : K ≤ l.length) (hE : ∀ j x, l[j]? = some x → EH w6 ok x ((fl.drop (j * 4)).take 4)) (hh : EH w6 ok h [v0, v1, v2, v3]) :
    ∀ j x, (l.take K ++ h :: l.drop K)[j]? = some x → EH w6 ok x (((fl.take (K * 4) ++ ([v0, v1, v2, v3] ++ fl.drop (K * 4))).drop (j * 4)).take 4) := by
  intro j x hx
  have hlt : (l.take K).length = K := by rw [List.length_take]; omega
  have hft : (fl.take (K * 4)).length = K * 4 := by rw [List.length_take, hfl]; omega
  rcases Nat.lt_trichotomy j K with hj | hj | hj
  · rw [List.getElem?_append_left (by omega), List.getElem?_take_of_lt hj] at hx
    have e : ((fl.take (K * 4) ++ ([v0, v1, v2, v3] ++ fl.drop (K * 4))).drop (j * 4)).take 4 = (fl.drop (j * 4)).take 4 := by
      rw [List.drop_append_of_le_length (by omega), List.take_append_of_le_length (by rw [List.length_drop]; omega), take_flat hj]
    rw [e]
    exact hE j x hx
  · subst hj
    rw [List.getElem?_append_right (by omega), hlt, Nat.sub_self] at hx
    have hx' : h = x := by simpa using hx
    subst hx'
    have e : ((fl.take (j * 4) ++ ([v0, v1, v2, v3] ++ fl.drop (j * 4))).drop (j * 4)).take 4 = [v0, v1, v2, v3] := by
      rw [List.drop_append_of_le_length (by omega), List.drop_of_length_le (by omega), List.nil_append]
      rfl
    rw [e]
    exact hh
  · rw [List.getElem?_append_right (by omega), hlt] at hx
    obtain ⟨d, rfl⟩ : ∃ d, j = K + 1 + d := ⟨j - (K + 1), by omega⟩
    rw [show K + 1 + d - K = d + 1 by omega, List.getElem?_cons_succ, List.getElem?_drop] at hx
    have e : ((fl.take (K * 4) ++ ([v0, v1, v2, v3] ++ fl.drop (K * 4))).drop ((K + 1 + d) * 4)).take 4 = (fl.drop ((K + d) * 4)).take 4 := by
      rw [List.drop_append, List.drop_of_length_le (by omega), List.nil_append, hft, List.drop_append, List.drop_of_length_le (by show 4 ≤ _; omega), List.nil_append, List.drop_drop]
      congr 2
      show K * 4 + ((K + 1 + d) * 4 - K * 4 - 4) = (K + d) * 4
      omega
    rw [e]
    exact hE (K + d) x hx
theorem del_cells {fl : List Value} {K : Nat} {ok : Nat → Prop} (hfl : fl.length = l.length * 4) (hK : K < l.length) (hE : ∀ j x, l[j]? = some x → EH w6 ok x ((fl.drop (j * 4)).take 4)) :
    ∀ j x, (l.take K ++ l.drop (K + 1))[j]? = some x → EH w6 ok x (((fl.take (K * 4) ++ fl.drop ((K + 1) * 4)).drop (j * 4)).take 4) := by
  intro j x hx
  have hlt : (l.take K).length = K := by rw [List.length_take]; omega
  have hft : (fl.take (K * 4)).length = K * 4 := by rw [List.length_take, hfl]; omega
  rcases Nat.lt_or_ge j K with hj | hj
  · rw [List.getElem?_append_left (by omega), List.getElem?_take_of_lt hj] at hx
    have e : ((fl.take (K * 4) ++ fl.drop ((K + 1) * 4)).drop (j * 4)).take 4 = (fl.drop (j * 4)).take 4 := by
      rw [List.drop_append_of_le_length (by omega), List.take_append_of_le_length (by rw [List.length_drop]; omega), take_flat hj]
    rw [e]
    exact hE j x hx
  · rw [List.getElem?_append_right (by omega), hlt, List.getElem?_drop] at hx
    have e : ((fl.take (K * 4) ++ fl.drop ((K + 1) * 4)).drop (j * 4)).take 4 = (fl.drop ((K + 1 + (j - K)) * 4)).take 4 := by
      rw [List.drop_append, List.drop_of_length_le (by omega), List.nil_append, hft, List.drop_drop]
      congr 2
      omega
    rw [e]
    exact hE _ x hx
end

end Go.Proofs.Ytbiofikijehlcaa

namespace Go.Proofs
open Go.Shelf
open Go.RowKit
def Try.sortHeld_ren : Go.Shelf.Ren := ⟨fun | 6 => 71 | 14 => 82 | 15 => 50 | 20 => 85 | 21 => 86 | 22 => 87 | 23 => 88 | 24 => 89 | 25 => 90 | 26 => 91 | 27 => 92 | 28 => 69 | 29 => 70 | 46 => 93 | 47 => 77 | 48 => 78 | 49 => 94 | 50 => 95 | 57 => 96 | n => n, fun | 0 => 0 | 3 => 3 | 4 => 4 | 5 => 5 | 9 => 9 | 22 => 22 | 24 => 36 | 25 => 94 | 39 => 72 | 45 => 82 | 46 => 83 | 50 => 57 | 53 => 90 | 55 => 61 | 66 => 96 | 70 => 100 | 76 => 104 | 77 => 105 | n => n, fun | n => n⟩
theorem Try.sortHeld : Go.Proofs.SlLaysF0.n6 Try.prog Try.sortHeld_ren := {
  mixed := by kernel_rfl
  f6 := ⟨Try.f71.name, by decide, Try.func71.trans (congrArg some (by kernel_rfl))⟩
  f14 := ⟨Try.f82.name, by decide, Try.func82.trans (congrArg some (by kernel_rfl))⟩
  f15 := Try.func50.trans (congrArg some (by kernel_rfl))
  f20 := ⟨Try.f85.name, by decide, Try.func85.trans (congrArg some (by kernel_rfl))⟩
  f21 := ⟨Try.f86.name, by decide, Try.func86.trans (congrArg some (by kernel_rfl))⟩
  f22 := ⟨Try.f87.name, by decide, Try.func87.trans (congrArg some (by kernel_rfl))⟩
  f23 := ⟨Try.f88.name, by decide, Try.func88.trans (congrArg some (by kernel_rfl))⟩
  f24 := ⟨Try.f89.name, by decide, Try.func89.trans (congrArg some (by kernel_rfl))⟩
  f25 := ⟨Try.f90.name, by decide, Try.func90.trans (congrArg some (by kernel_rfl))⟩
  f26 := ⟨Try.f91.name, by decide, Try.func91.trans (congrArg some (by kernel_rfl))⟩
  f27 := ⟨Try.f92.name, by decide, Try.func92.trans (congrArg some (by kernel_rfl))⟩
  f28 := Try.func69.trans (congrArg some (by kernel_rfl))
  f29 := Try.func70.trans (congrArg some (by kernel_rfl))
  f46 := ⟨Try.f93.name, by decide, Try.func93.trans (congrArg some (by kernel_rfl))⟩
  f47 := Try.func77.trans (congrArg some (by kernel_rfl))
  f48 := Try.func78.trans (congrArg some (by kernel_rfl))
  f49 := ⟨Try.f94.name, by decide, Try.func94.trans (congrArg some (by kernel_rfl))⟩
  f50 := ⟨Try.f95.name, by decide, Try.func95.trans (congrArg some (by kernel_rfl))⟩
  f57 := ⟨Try.f96.name, by decide, Try.func96.trans (congrArg some (by kernel_rfl))⟩
  t0 := Try.underlying0
  a0 := Try.isAgg0
  z0 := Try.sizeOf0
  v0 := Try.zeroValue0
  t3 := Try.underlying3
  a3 := Try.isAgg3
  z3 := Try.sizeOf3
  v3 := Try.zeroValue3
  t4 := Try.underlying4
  a4 := Try.isAgg4
  z4 := Try.sizeOf4
  v4 := Try.zeroValue4
  t5 := Try.underlying5
  a5 := Try.isAgg5
  z5 := Try.sizeOf5
  v5 := Try.zeroValue5
  t9 := Try.underlying9
  a9 := Try.isAgg9
  z9 := Try.sizeOf9
  v9 := Try.zeroValue9
  t22 := Try.underlying22
  a22 := Try.isAgg22
  z22 := Try.sizeOf22
  v22 := Try.zeroValue22
  t25 := Try.underlying94
  a25 := Try.isAgg94
  z25 := Try.sizeOf94
  v25 := Try.zeroValue94
  t39 := Try.underlying72
  a39 := Try.isAgg72
  z39 := Try.sizeOf72
  v39 := Try.zeroValue72
  t45 := Try.underlying82
  a45 := Try.isAgg82
  z45 := Try.sizeOf82
  v45 := Try.zeroValue82
  t46 := Try.underlying83
  a46 := Try.isAgg83
  z46 := Try.sizeOf83
  v46 := Try.zeroValue83
  t50 := Try.underlying57
  a50 := Try.isAgg57
  z50 := Try.sizeOf57
  v50 := Try.zeroValue57
  t53 := Try.underlying90
  a53 := Try.isAgg90
  z53 := Try.sizeOf90
  v53 := Try.zeroValue90
  t55 := Try.underlying61
  a55 := Try.isAgg61
  z55 := Try.sizeOf61
  v55 := Try.zeroValue61
  t66 := Try.underlying96
  a66 := Try.isAgg96
  z66 := Try.sizeOf96
  v66 := Try.zeroValue96
  t70 := Try.underlying100
  a70 := Try.isAgg100
  z70 := Try.sizeOf100
  v70 := Try.zeroValue100
  t76 := Try.underlying104
  a76 := Try.isAgg104
  z76 := Try.sizeOf104
  v76 := Try.zeroValue104
  t77 := Try.underlying105
  a77 := Try.isAgg105
  z77 := Try.sizeOf105
  v77 := Try.zeroValue105
}

end Go.Proofs

namespace Go.Proofs.Ytbiofikijehlcaa
open Go.RowKit Go.Sort

theorem compare64_any (a b : Int) (w : World) : Calls Try.prog 73 #[.int .i64 a, .int .i64 b] w fun e w' => e = .returned (.int .i64 (cmpZ a b)) ∧ w' = w := by
  by_cases h1 : a < b
  · have e : Hid (cmpZ a b = -1) := Lib.hid (by unfold cmpZ; rw [if_pos h1])
    go_enter Try.func73, Try.ntmps73
    go_wp2
    go_ret
    exact ⟨by rw [e.out]; rfl, rfl⟩
  · by_cases h2 : b < a
    · have e : Hid (cmpZ a b = 1) := Lib.hid (by unfold cmpZ; rw [if_neg h1, if_pos h2])
      go_enter Try.func73, Try.ntmps73
      go_wp2
      go_ret
      exact ⟨by rw [e.out]; rfl, rfl⟩
    · have e : Hid (cmpZ a b = 0) := Lib.hid (by unfold cmpZ; rw [if_neg h1, if_neg h2])
      go_enter Try.func73, Try.ntmps73
      go_wp2
      go_ret
      exact ⟨by rw [e.out]; rfl, rfl⟩

/-- a holding with the slice that it bears -/
structure Hc where
  h : Hd
  A : Option Addr
  m : Nat
  c : Nat
instance : Inhabited Hc := ⟨⟨hd0, none, 0, 0⟩⟩
def encH (x : Hc) : List Value := [.int .i64 x.h.id, .slice x.A x.m x.c, .int .i64 x.h.frm, .int .i64 x.h.to]
theorem pick_cells {w : World} {ok : Nat → Prop} : ∀ (l : Tb) (fl : List Value), fl.length = l.length * 4 → (∀ j x, l[j]? = some x → EH w ok x ((fl.drop (j * 4)).take 4)) →
    ∃ p : List Hc, p.map Hc.h = l ∧ (∀ j x, p[j]? = some x → (fl.drop (j * 4)).take 4 = encH x) ∧ ∀ x ∈ p, EH w ok x.h (encH x)
  | [], fl, _, _ => ⟨[], rfl, fun j x h => by simp at h, fun x h => by cases h⟩
  | x :: r, fl, h1, h2 => by
    have e0 := h2 0 x rfl
    obtain ⟨A, m, c, hv, h3⟩ := id e0
    obtain ⟨p, p1, p2, p3⟩ := pick_cells (w := w) (ok := ok) r (fl.drop 4) (by rw [List.length_drop, h1, List.length_cons]; omega) (fun j y hy => by
      have := h2 (j + 1) y (by simpa using hy)
      rwa [show (j + 1) * 4 = 4 + j * 4 by omega, ← List.drop_drop] at this)
    refine ⟨⟨x, A, m, c⟩ :: p, by rw [List.map_cons, p1], fun j y hy => ?_, fun y hy => ?_⟩
    · cases j with
      | zero =>
        have : (⟨x, A, m, c⟩ : Hc) = y := by simpa using hy
        subst this
        exact hv
      | succ j =>
        have := p2 j y (by simpa using hy)
        rw [show (j + 1) * 4 = 4 + j * 4 by omega, ← List.drop_drop]
        exact this
    · rcases List.mem_cons.1 hy with e | e
      · subst e
        show EH w ok x [_, _, _, _]
        exact ⟨A, m, c, rfl, h3⟩
      · exact p3 y e
theorem ltH (x y : Hc) : Go.Proofs.ltOf (fun x y : Hc => cmpZ x.h.frm y.h.frm) x y = decide (x.h.frm < y.h.frm) := cmpZ_lt _ _
theorem swoH : SWO (Go.Proofs.ltOf fun x y : Hc => cmpZ x.h.frm y.h.frm) where
  irrefl x := by rw [ltH]; simp
  trans x y z h1 h2 := by rw [ltH] at *; simp at *; omega
  ntrans x y z h1 h2 := by rw [ltH] at *; simp at *; omega
set_option maxHeartbeats 1000000 in
/-- the question that sorts: which of two began earlier -/
theorem byFrom1_any (x y : Hc) (W : World) : Calls Try.prog 72 #[.agg #[.int .i64 x.h.id, .slice x.A x.m x.c, .int .i64 x.h.frm, .int .i64 x.h.to], .agg #[.int .i64 y.h.id, .slice y.A y.m y.c, .int .i64 y.h.frm, .int .i64 y.h.to]] W fun e w' => e = .returned (.int .i64 (cmpZ x.h.frm y.h.frm)) ∧ ∃ q os', w' = grow (W.drewN q) os' := by
  have hcon := fun W' => compare64_any x.h.frm y.h.frm W'
  obtain ⟨r, hr⟩ : ∃ r, cmpZ x.h.frm y.h.frm = r := ⟨_, rfl⟩
  rw [hr] at hcon ⊢
  go_enter Try.func72, Try.ntmps72
  go_wp2_with (go_at_call 73; refine (hcon _).mono ?_; rintro e w' ⟨rfl, rfl⟩)
  go_ret
  exact ⟨rfl, 0, _, by rw [alloc_eq_grow, alloc_eq_grow, grow_grow]; rfl⟩

section
variable {w w1 : World} {g m n c : Nat} {d : Array Hc} {os : Array Obj} {cur : Array Value} {T : TypeId}
/-- the world behind a sort, block by block -/
theorem sorted_block (hg : w.heap[g]? = some (.cells cur T (0, 0))) :
    (sortWorldK encH 4 w g 0 m d os).heap[g]? = some (.cells (putCells id 0 (flatK encH 4 d) cur) T (0, 0)) := by
  have hlt : g < w.heap.size := (Array.getElem?_eq_some_iff.1 hg).1
  unfold sortWorldK
  rw [heap_grow_old _ _ (by simp [putRowK, putRow, mapBlock]; exact hlt)]
  show ((Sort.ahead w m).heap.modify g (onCells (putCells id 0 (flatK encH 4 d))))[g]? = _
  rw [Array.getElem?_modify, if_pos rfl]
  show Option.map _ w.heap[g]? = _
  rw [hg]
  rfl
theorem sorted_size : w.heap.size ≤ (sortWorldK encH 4 w g 0 m d os).heap.size := by
  unfold sortWorldK
  simp [putRowK, putRow, mapBlock]
theorem sorted_other {b : Nat} (hb : b < w.heap.size) (hne : b ≠ g) : (sortWorldK encH 4 w g 0 m d os).heap[b]? = w.heap[b]? := by
  unfold sortWorldK
  rw [heap_grow_old _ _ (by simp [putRowK, putRow, mapBlock]; exact hb)]
  show ((Sort.ahead w m).heap.modify g (onCells (putCells id 0 (flatK encH 4 d))))[b]? = _
  rw [Array.getElem?_modify, if_neg (fun e => hne e.symm)]
  rfl
theorem sorted_below {B : Nat} {w0 : World} (h : Below B w0 w) (hB : B ≤ g) (hg : g < w.heap.size) : Below B w0 (sortWorldK encH 4 w g 0 m d os) := by
  exact h.trans ⟨rfl, rfl, rfl, sorted_size, fun b hb => sorted_other (by omega) (by omega)⟩
theorem encH_len (x : Hc) : (encH x).length = 4 := rfl
theorem flat_el {j : Nat} (hj : j < d.size) : ((flatK encH 4 d).toList.drop (j * 4)).take 4 = encH d[j]! := by
  apply List.ext_getElem?
  intro i
  by_cases hi : i < 4
  · rw [List.getElem?_take_of_lt hi, List.getElem?_drop]
    have ht : j * 4 + i < d.size * 4 := by omega
    have h1 := get_flatK encH 4 d (j * 4 + i) ht
    rw [getElem!_pos _ _ (by rw [size_flatK]; exact ht), show (j * 4 + i) / 4 = j by omega, show (j * 4 + i) % 4 = i by omega] at h1
    rw [List.getElem?_eq_getElem (by rw [Array.length_toList, size_flatK]; exact ht), Array.getElem_toList, h1, getElem!_pos _ _ (by rw [encH_len]; exact hi), List.getElem?_eq_getElem]
  · rw [List.getElem?_eq_none (by rw [List.length_take]; omega), List.getElem?_eq_none (by rw [encH_len]; omega)]
theorem put_take (hs : d.size * 4 ≤ cur.size) : (putCells id 0 (flatK encH 4 d) cur).toList.take (d.size * 4) = (flatK encH 4 d).toList := by
  have hF : (flatK encH 4 d).size = d.size * 4 := size_flatK _ _ _
  have hP : (putCells id 0 (flatK encH 4 d) cur).size = cur.size := by simp [putCells]
  apply List.ext_getElem?
  intro t
  by_cases ht : t < d.size * 4
  · rw [List.getElem?_take_of_lt ht, List.getElem?_eq_getElem (by rw [Array.length_toList]; omega), List.getElem?_eq_getElem (by rw [Array.length_toList]; omega), Array.getElem_toList, Array.getElem_toList]
    congr 1
    simp only [putCells, Array.getElem_mapIdx]
    rw [if_pos ⟨Nat.zero_le _, by omega⟩, Nat.sub_zero, getElem!_pos _ _ (by omega)]
    rfl
  · rw [List.getElem?_eq_none (by rw [List.length_take]; omega), List.getElem?_eq_none (by rw [Array.length_toList]; omega)]
/-- a row of holdings that has been sorted -/
theorem rowQ_sorted {ok : Nat → Prop} {B : Nat} {l : Tb} {p : List Hc} (h : RowQ EH 4 T ok B (.slice (some ⟨g, 0, none⟩) n c) l w) (hok : ∀ b, ok b → b < w.heap.size ∧ b ≠ g) (hd : d.size = n) (hp : ∀ x ∈ d.toList, x ∈ p)
    (hE : ∀ x ∈ p, EH w ok x.h (encH x)) : RowQ EH 4 T ok B (.slice (some ⟨g, 0, none⟩) n c) (d.toList.map Hc.h) (sortWorldK encH 4 w g 0 m d os) := by
  obtain ⟨fl, h1, _⟩ := h
  have hln : l.length = n := by
    rcases id h1.2 with ⟨e, _⟩ | ⟨g', cap', cur, e, _⟩
    · cases e
    · injection e with _ e2 _
      exact e2.symm
  have hsl : (d.toList.map Hc.h).length = n := by rw [List.length_map, Array.length_toList, hd]
  have hfl : (flatK encH 4 d).toList.length = n * 4 := by rw [Array.length_toList, size_flatK, hd]
  refine ⟨(flatK encH 4 d).toList, ?_, fun j x hx => ?_⟩
  · rw [hsl]
    rcases id h1.2 with ⟨e, _⟩ | ⟨g', cap', cur, e, e1, e2, e3, e4, e5, _⟩
    · cases e
    · injection e with f1 _ f3
      injection f1 with f1
      injection f1 with f1
      subst f1 f3
      refine ⟨hfl, .inr ⟨g, c, _, rfl, e1, sorted_block e2, by rw [← hln]; exact e3, e4, by simp [putCells]; exact e5, ?_⟩⟩
      rw [← hd]
      exact put_take (by rw [hd, e5]; rw [hln] at e3; exact Nat.mul_le_mul_right 4 e3)
  · have hj : j < d.size := by
      have := (List.getElem?_eq_some_iff.1 hx).1
      rw [hsl] at this
      omega
    have hx' : x = (d[j]!).h := by
      rw [List.getElem?_map, List.getElem?_eq_getElem (by rw [Array.length_toList]; exact hj), Array.getElem_toList] at hx
      rw [getElem!_pos d j hj]
      exact (Option.some.inj hx).symm
    rw [flat_el hj, hx']
    have hm : d[j]! ∈ d.toList := by
      rw [getElem!_pos d j hj, ← Array.getElem_toList (h := by rw [Array.length_toList]; exact hj)]
      exact List.getElem_mem _
    exact eh_steady.keep (hE _ (hp _ hm)) (fun b hb => sorted_other (hok b hb).1 (hok b hb).2) (fun _ h => h)
end
theorem perm_all {d d' : Array Hc} (h : PermIn 0 d.size d d') : d'.toList.Perm d.toList := by
  obtain ⟨h1, _, h3⟩ := h
  rw [Array.extract_eq_self_of_le (by omega), Array.extract_eq_self_of_le (by omega)] at h3
  exact h3

set_option maxRecDepth 100000 in
set_option maxHeartbeats 4000000 in
theorem byFrom_any (B : Nat) (A : Option Addr) (n c : Nat) (l : Tb) (w : World) (hB : B ≤ w.heap.size) (hr : RT w B A n l) (hnil : A = none → c = 0) (hn : n ≤ 1000) :
    Calls Try.prog 51 #[.slice A n c] w fun e w' => ∃ v l', e = .returned v ∧ l'.Perm l ∧ (l'.Pairwise fun a b => a.frm ≤ b.frm) ∧ Below w.heap.size w w' ∧ RowQ EH 4 36 (Lt B) w.heap.size v l' w' := by
  have HL := Lib.hid hr.len
  have HC := Lib.hid (cloneQ_any B A n c l w hB hr hnil (by omega))
  have eg : ∀ args w, (callFunc 72 args).run Try.prog w = .ok (.enter 72 args) w := Go.Proofs.enters_of Try.func72 (by kernel_rfl) rfl
  clear hr hnil
  go_enter Try.func51, Try.ntmps51
  go_wp2_with fail
  refine HC.out.mono ?_
  rintro e w1 ⟨v, rfl, hb1, hon⟩
  have HB1 := Lib.hid hb1
  obtain ⟨A1, c1, rfl, _, _⟩ := hon.form
  have HO := Lib.hid hon
  rw [HL.out] at HO ⊢
  clear hon hb1
  rcases Nat.eq_zero_or_pos n with h0 | h0
  · subst h0
    have hcon := Go.Proofs.AnyF.slices_SortFunc_none Try.sortHeld A1 c1 (.func (.func 72) #[] #[]) w1
    change Calls Try.prog 71 _ _ _ at hcon
    have HCON := Lib.hid hcon
    have HE : Hid (l = []) := Lib.hid (List.eq_nil_of_length_eq_zero HL.out)
    clear hcon
    go_wp2_with fail
    refine HCON.out.mono ?_
    rintro e w2 ⟨rfl, rfl⟩
    go_wp2
    go_ret
    exact ⟨_, l, rfl, List.Perm.refl _, by rw [HE.out]; exact List.Pairwise.nil, HB1.out, HO.out⟩
  · obtain ⟨g, _, _, rfl, hgb, hgl, _⟩ := HO.out.at h0
    obtain ⟨fl, f1, f3⟩ := id HO.out
    obtain ⟨p, p1, p2, p3⟩ := pick_cells l fl (by have := f1.1; exact this) f3
    have hpl : p.length = n := by have := congrArg List.length p1; rw [List.length_map, HL.out] at this; exact this
    have hds : p.toArray.size = n := by simpa using hpl
    have hH : HoldsK encH 4 w1 g 0 p.toArray := by
      intro t ht
      rw [size_flatK, hds] at ht
      have hj : t / 4 < p.length := by omega
      have e1 := p2 (t / 4) _ (List.getElem?_eq_getElem hj)
      have hln := f1.1
      rw [HL.out] at f1 hln
      rw [Nat.zero_add, f1.cellAt t ht, f1.frozenAt t]
      refine ⟨?_, rfl⟩
      rw [get_flatK encH 4 p.toArray t (by rw [hds]; exact ht)]
      have e2 : ((fl.drop (t / 4 * 4)).take 4)[t % 4]? = fl[t]? := by
        rw [List.getElem?_take_of_lt (by omega), List.getElem?_drop, show t / 4 * 4 + t % 4 = t by omega]
      rw [← e2, e1, getElem!_pos p.toArray _ (by simpa using hj), getElem!_pos _ _ (by rw [encH_len]; omega)]
      rw [List.getElem?_eq_getElem (by rw [encH_len]; omega)]
      simp
    have hcon := Go.Proofs.AnyQ.slices_SortFunc Try.sortHeld 4 Try.isAgg36 Try.sizeOf36 encH (fun _ => rfl) (fun x v hv => by simp [encH] at hv; rcases hv with rfl | rfl | rfl | rfl <;> rfl) (fun x y => cmpZ x.h.frm y.h.frm) swoH 72 #[] g 0 c1 p.toArray w1 eg (fun _ _ _ _ x y => byFrom1_any x y _) hH hgl (by rw [hds]; omega)
    change Calls Try.prog 71 _ _ _ at hcon
    rw [hds] at hcon
    have HCON := Lib.hid hcon
    have HP : Hid (∀ d' : Array Hc, ∀ m os, PermIn 0 n p.toArray d' → SortedIn (Go.Proofs.ltOf fun x y : Hc => cmpZ x.h.frm y.h.frm) 0 n d' →
        ∃ l' : Tb, l'.Perm l ∧ (l'.Pairwise fun a b => a.frm ≤ b.frm) ∧ Below w.heap.size w (sortWorldK encH 4 w1 g 0 m d' os) ∧ RowQ EH 4 36 (Lt B) w.heap.size (.slice (some ⟨g, 0, none⟩) n c1) l' (sortWorldK encH 4 w1 g 0 m d' os)) := Lib.hid (fun d' m os hp hs => by
      have hsz : d'.size = n := by rw [hp.1, hds]
      have hperm := perm_all (by rw [hds]; exact hp)
      refine ⟨d'.toList.map Hc.h, ?_, ?_, sorted_below HB1.out hgb hgl, rowQ_sorted HO.out (fun b hb => ⟨Nat.lt_of_lt_of_le hb (Nat.le_trans hB HB1.out.size), fun e => by have hb' : b < B := hb; omega⟩) hsz (p := p) (fun x hx => by simpa using (hperm.mem_iff).1 hx) p3⟩
      · have := hperm.map Hc.h
        rwa [show p.toArray.toList = p from rfl, p1] at this
      · rw [List.pairwise_iff_getElem]
        intro i j hi hj hij
        rw [List.length_map, Array.length_toList] at hi hj
        have := hs i j (Nat.zero_le _) hij (by omega)
        rw [ltH, decide_eq_false_iff_not, getElem!_pos d' i hi, getElem!_pos d' j hj] at this
        rw [List.getElem_map, List.getElem_map, Array.getElem_toList, Array.getElem_toList]
        omega)
    clear hcon hH p1 p2 p3 f1 f3 eg hgb hgl hpl hds
    go_wp2_with fail
    refine HCON.out.mono ?_
    rintro e w2 ⟨rfl, d', m, os, hp, hs, rfl⟩
    have HF := Lib.hid (HP.out d' m os hp hs)
    clear hp hs
    go_wp2
    go_ret
    obtain ⟨l', h1, h2, h3, h4⟩ := HF.out
    exact ⟨_, l', rfl, h1, h2, h3, h4⟩

end Go.Proofs.Ytbiofikijehlcaa

namespace Go.Proofs.Ytbiofikijehlcaa
open Go.RowKit

/-- the cells of marks -/
def tillA (p : Nat → Int) : Array Value := ((List.range 256).map fun k => Value.int .i64 (p k)).toArray
theorem tillA_size (p : Nat → Int) : (tillA p).size = 256 := by unfold tillA; simp
theorem tillA_at (p : Nat → Int) {k : Nat} (hk : k < 256) : (tillA p)[k]? = some (.int .i64 (p k)) := by unfold tillA; simp [hk]
/-- one mark more, or less -/
def tset (p : Nat → Int) (k : Nat) (b : Int) : Nat → Int := fun j => if j = k then b else p j
theorem tset_same (p : Nat → Int) (k : Nat) (b : Int) : tset p k b k = b := by unfold tset; rw [if_pos rfl]
theorem tset_other (p : Nat → Int) {k j : Nat} (b : Int) (h : j ≠ k) : tset p k b j = p j := by unfold tset; rw [if_neg h]
theorem tillA_set (p : Nat → Int) (k : Nat) (b : Int) : (tillA p).setIfInBounds k (.int .i64 b) = tillA (tset p k b) := by
  apply Array.ext
  · simp [tillA_size]
  · intro j h1 h2
    rw [tillA_size] at h2
    have e2 := tillA_at (tset p k b) h2
    rw [Array.getElem?_eq_getElem (by rw [tillA_size]; exact h2)] at e2
    have e2' := Option.some.inj e2
    rw [e2', Array.getElem_setIfInBounds (by rw [tillA_size]; exact h2)]
    split
    · rename_i h; subst h; rw [tset_same]
    · rename_i h
      have e1 := tillA_at p h2
      rw [Array.getElem?_eq_getElem (by rw [tillA_size]; exact h2)] at e1
      rw [Option.some.inj e1, tset_other _ _ (fun e => h e.symm)]
theorem tillA_ext {p q : Nat → Int} (h : ∀ k, k < 256 → p k = q k) : tillA p = tillA q := by
  unfold tillA
  congr 1
  apply List.map_congr_left
  intro k hk
  rw [h k (List.mem_range.1 hk)]

theorem tills_closed : (Try.prog.info? 73).map (fun i => (i.zero.map Value.cells, i.size)) = some (some (tillA fun _ => 0), 256) := by kernel_rfl
theorem tills_size : (Try.prog.info? 73).map (·.size) = some 256 := by kernel_rfl

/-- marks in a new block, behind a world -/
structure TillM (W : World) (p : Nat → Int) (wr : World) : Prop where
  bel : Below W.heap.size W wr
  at' : wr.heap[W.heap.size]? = some (.cells (tillA p) 73 (0, 0))
section
variable {W wr w' : World} {p : Nat → Int} {k : Nat}
theorem TillM.lt (h : TillM W p wr) : W.heap.size < wr.heap.size := (Array.getElem?_eq_some_iff.1 h.at').1
theorem TillM.cell (h : TillM W p wr) (hk : k < 256) : wr.cell? ⟨W.heap.size, k, none⟩ = some (.int .i64 (p k)) := by
  rw [cell_of_row _ _ _ _ _ _ h.at', tillA_at p hk]
theorem TillM.frozen (h : TillM W p wr) (k : Nat) : wr.frozen? ⟨W.heap.size, k, none⟩ = false := frozen_of_row _ _ _ _ _ h.at'
theorem TillM.next (h : TillM W p wr) (hb : Below wr.heap.size wr w') : TillM W p w' := ⟨h.bel.trans (hb.mono h.bel.size), (hb.block _ h.lt).trans h.at'⟩
theorem TillM.drewN (h : TillM W p wr) (q : Nat) : TillM W p (wr.drewN q) := h.next (bel_drew wr q)
theorem TillM.set (h : TillM W p wr) (b : Int) : TillM W (tset p k b) (wr.setCell ⟨W.heap.size, k, none⟩ (.int .i64 b)) := by
  refine ⟨h.bel.setCell (Nat.le_refl _) _, ?_⟩
  rw [heap_setCell_same wr W.heap.size k _ _ _ h.at', tillA_set]
theorem TillM.ext {q : Nat → Int} (h : TillM W p wr) (he : ∀ k, k < 256 → p k = q k) : TillM W q wr := ⟨h.bel, by rw [h.at', tillA_ext he]⟩
theorem tills_made (W : World) : TillM W (fun _ => 0) (W.alloc (.cells (tillA fun _ => 0) 73)) :=
  ⟨(Below.refl _ _).alloc (Nat.le_refl _) _, heap_alloc_new W _⟩
theorem tills_boxed (W : World) (p : Nat → Int) : TillM W p (W.alloc (.cells (tillA p) 73)) :=
  ⟨(Below.refl _ _).alloc (Nat.le_refl _) _, heap_alloc_new W _⟩
end

/-- 'var in marks' -/
theorem wpList_alloc_tills {ops : Array Oper} {rest : List Oper} {o : Oper} {a : Act} {Q : Exit → Act → World → Prop} {w : World} (hgd : o.guard = none) (ho : o.op = .alloc 73)
    (h : ∀ w', TillM w (fun _ => 0) w' → wpList Try.prog ops Q rest (a.put o.dst (.pointer (some ⟨w.heap.size, 0, none⟩))) w') : wpList Try.prog ops Q (o :: rest) a w := by
  refine wpList_plain hgd fun K hK => ?_
  have hc := tills_closed
  cases hi : Try.prog.info? 73 with
  | none => rw [hi] at hc; cases hc
  | some i =>
    rw [hi] at hc
    simp only [Option.map_some, Option.some.injEq, Prod.mk.injEq] at hc
    obtain ⟨z, hz, hzc⟩ : ∃ z, i.zero = some z ∧ z.cells = tillA fun _ => 0 := by
      cases hz : i.zero with
      | none => rw [hz] at hc; cases hc.1
      | some z => rw [hz] at hc; exact ⟨z, rfl, Option.some.inj hc.1⟩
    have hrun : (Instr.alloc 73 true (.tuple #[])).run Try.prog w = .ok (.pointer (some ⟨w.heap.size, 0, none⟩)) (w.alloc (.cells (tillA fun _ => 0) 73)) := by
      simp [Instr.alloc, zeroValue, typeInfo, hi, hz, newVar, newRow, hzc]
    unfold Oper.wp
    simp [execOp, ho, hrun, Result.andThen]
    exact hK _ _ (h _ (tills_made w))
/-- 'in', as a value -/
theorem wpList_load_tills {ops : Array Oper} {rest : List Oper} {o : Oper} {a : Act} {Q : Exit → Act → World → Prop} {W w : World} {p : Nat → Int} (hgd : o.guard = none) (x : Operand) (ho : o.op = .load 73 x)
    (hm : TillM W p w) (hx : a.eval x = .pointer (some ⟨W.heap.size, 0, none⟩))
    (h : wpList Try.prog ops Q rest (a.put o.dst (.agg (tillA p))) w) : wpList Try.prog ops Q (o :: rest) a w :=
  wpList_load_row hgd _ x ho W.heap.size hx _ (tillA p) (0, 0) _ hm.at' Try.underlying73 rfl (by rw [tills_size, tillA_size]) h

end Go.Proofs.Ytbiofikijehlcaa

namespace Go.Proofs.Ytbiofikijehlcaa
open Go.RowKit

set_option maxRecDepth 100000 in
set_option maxHeartbeats 8000000 in
theorem twice_any (A : Option Addr) (n c : Nat) (l : Tb) (w : World) (hr : RT w w.heap.size A n l) (hnil : A = none → c = 0) (hf : FewT l) (hm : ∀ x ∈ l, MayH x) :
    Calls Try.prog 36 #[.slice A n c] w fun e w' => e = .returned (.bool (twiceB l)) ∧ Below w.heap.size w w' := by
  have HL := Lib.hid hr.len
  have HM := Lib.hid hm
  have HF := Lib.hid hf
  have hn : n ≤ 100 := by rw [← hr.len]; exact hf.1
  have HR := Lib.hid hr
  have HNIL := Lib.hid hnil
  obtain ⟨v, hv⟩ : ∃ v, twiceB l = v := ⟨_, rfl⟩
  have HV := Lib.hid hv
  rw [hv]
  clear hr hnil hf hm hv
  go_enter Try.func36, Try.ntmps36
  go_wp2_with (with_reducible refine wpList_alloc_tills rfl rfl ?_; intro w2 hm; refine Hid.out ?_)
  refine Lib.hid ?_
  have HT2 := Lib.hid hm
  clear hm
  go_wp2_with fail
  refine (byFrom_any w.heap.size A n c l w2 HT2.out.bel.size (HR.out.below HT2.out.bel) HNIL.out (by omega)).mono ?_
  rintro e w3 ⟨v1, m, rfl, hp, hs, hb3, hq3⟩
  obtain ⟨A1, c1, rfl, _, _⟩ := hq3.form
  have hml : m.length = n := by rw [hp.length_eq, HL.out]
  have HML := Lib.hid hml
  have HQ3 := Lib.hid hq3
  have HT3 := Lib.hid (HT2.out.next hb3)
  have HG2 : Hid (w.heap.size < w2.heap.size) := Lib.hid HT2.out.lt
  have HMM : Hid (∀ x ∈ m, MayH x ∧ x.things.length ≤ 100) := Lib.hid (fun x hx => ⟨HM.out x ((hp.mem_iff).1 hx), HF.out.2 x ((hp.mem_iff).1 hx)⟩)
  have HS := Lib.hid hs
  have HP : Hid (NoClash m ↔ NoClash l) := Lib.hid (noClash_perm hp)
  rw [hml] at HQ3 ⊢
  clear hp hs hb3 hq3 hml
  go_wp2
  go_loopw [11] (fun i wr => ∃ (k : Nat) (t : Nat → Int), k ≤ n ∧ i = .int .i64 k ∧ TillM w t wr ∧ Till m k 0 t ∧ RowQ EH 4 36 (Lt w.heap.size) w2.heap.size (.slice A1 n c1) m wr) (fun i _ => n - (intOf i).toNat)
  case atStart => exact ⟨0, _, Nat.zero_le _, rfl, HT3.out, till_zero m, HQ3.out⟩
  case round =>
    obtain ⟨k, t, hk, rfl, htm, htl, hq⟩ := hrel
    have HTM := Lib.hid htm
    have HTL := Lib.hid htl
    have HQ := Lib.hid hq
    clear htm htl hq
    by_cases hlt : k < n
    · have hkm : k < m.length := by rw [HML.out]; exact hlt
      obtain ⟨g, x, vs, e, hgb, hgl, hx, _, hc, A2, m2, c2, hvs, hrn, h1, h2, h3, h4⟩ := HQ.out.at hlt
      subst e hvs
      have hxx : m.getD k hd0 = x := by rw [List.getD, hx]; rfl
      have hxm : x ∈ m := List.mem_of_getElem? hx
      have hmay := (HMM.out x hxm).1
      have hm100 : m2 ≤ 100 := by have := (HMM.out x hxm).2; have := hrn.1; omega
      have HX : Hid (RI w w.heap.size A2 m2 x.things) := Lib.hid (RN.ri (hrn.keep ei_steady (fun b hb => (HTM.out.bel.block b hb).symm) (fun _ h => h)))
      have HXX := Lib.hid hxx
      have HMAY := Lib.hid hmay
      have HX2 := Lib.hid hrn.1
      have c0 := hc 0 _ rfl
      have c1' := hc 1 _ rfl
      have c2' := hc 2 _ rfl
      have c3' := hc 3 _ rfl
      rw [Nat.add_zero] at c0
      have hba : Below wr.heap.size wr (wr.alloc (hO x A2 m2 c2)) := (Below.refl _ _).alloc (Nat.le_refl _) _
      have HTA := Lib.hid (HTM.out.next hba)
      have HQA : Hid (RowQ EH 4 36 (Lt w.heap.size) w2.heap.size (.slice (some ⟨g, 0, none⟩) n c1) m (wr.alloc (hO x A2 m2 c2))) := Lib.hid (HQ.out.keep eh_steady (fun b hb => hba.block b (by
        rcases hb with hb | hb
        · exact Nat.lt_of_lt_of_le hb HTM.out.bel.size
        · exact (HQ.out.own b hb).2)))
      have HBX : Hid (BoxH (wr.alloc (hO x A2 m2 c2)) wr.heap.size x A2 m2 c2) := Lib.hid (boxH_new wr x A2 m2 c2)
      have HGX : Hid (w.heap.size < wr.heap.size ∧ g ≠ wr.heap.size) := Lib.hid ⟨HTM.out.lt, by omega⟩
      unfold hO at HTA HQA HBX
      obtain ⟨Wa, hWa⟩ : ∃ Wa, wr.alloc (.cells #[.int .i64 x.id, .slice A2 m2 c2, .int .i64 x.frm, .int .i64 x.to] 36) = Wa := ⟨_, rfl⟩
      rw [hWa] at HTA HQA HBX
      have q1 := HBX.out.c1
      clear hx hc hrn h1 h2 h3 h4 hba hgb hgl hxm hmay hkm hxx
      go_wp2_with (simp only [hWa])
      clear hWa q1
      go_loopw [18] (fun i wq => ∃ (j : Nat) (t : Nat → Int), j ≤ m2 ∧ i = .int .i64 j ∧ TillM w t wq ∧ Till m k j t ∧ RowQ EH 4 36 (Lt w.heap.size) w2.heap.size (.slice (some ⟨g, 0, none⟩) n c1) m wq ∧ BoxH wq wr.heap.size x A2 m2 c2) (fun i _ => m2 - (intOf i).toNat)
      case atStart => exact ⟨0, t, Nat.zero_le _, rfl, HTA.out, HTL.out, HQA.out, HBX.out⟩
      case round =>
        obtain ⟨j, t1, hj, rfl, htm, htl, hq, hbx⟩ := hrel
        have HTM1 := Lib.hid htm
        have HTL1 := Lib.hid htl
        have HQ1 := Lib.hid hq
        have HBX1 := Lib.hid hbx
        clear htm htl hq hbx
        by_cases hltj : j < m2
        · have hkm : k < m.length := by rw [HML.out]; exact hlt
          have hjl : j < (m.getD k hd0).things.length := by rw [HXX.out, HX2.out]; exact hltj
          obtain ⟨b2, o2, rfl, _, hcy⟩ := (HX.out.below HTM1.out.bel).one hltj
          have hym := right_mem HMAY.out.2.1 _ (z_mem (show j < x.things.length by rw [HX2.out]; exact hltj))
          obtain ⟨y, hy⟩ : ∃ y, x.things.getD j 0 = y := ⟨_, rfl⟩
          rw [hy] at hcy hym
          obtain ⟨q, rfl⟩ : ∃ q : Nat, y = (q : Int) := ⟨y.toNat, by omega⟩
          have hq256 : q < 256 := by omega
          have hqz : (q : Int) < 256 := by omega
          have HBAD := Lib.hid (HTL1.out.bad (fun z hz => (HMM.out z hz).1) HS.out hkm hjl)
          have HNXT := Lib.hid (HTL1.out.next (fun z hz => (HMM.out z hz).1) hkm hjl)
          rw [HXX.out, hy, Int.toNat_natCast] at HBAD HNXT
          have f2 := HBX1.out.c2
          have f3 := HBX1.out.c3
          have ht := HTM1.out.cell hq256
          have hz := HTM1.out.frozen q
          obtain ⟨tq, htq⟩ : ∃ tq, t1 q = tq := ⟨_, rfl⟩
          rw [htq] at HBAD HNXT ht
          clear hy hym hkm hjl htq
          by_cases hbad : x.frm < tq
          · have d0 : decide (x.frm < tq) = true := decide_eq_true hbad
            have HRES : Hid (v = true) := Lib.hid (by
              rw [← HV.out]
              unfold twiceB
              rw [decide_eq_false (fun h => HBAD.out hbad (HP.out.2 h))]
              rfl)
            clear hbad
            go_wp2
            go_quiet (fail)
            go_wp2
            go_ret
            exact ⟨by rw [HRES.out]; rfl, HTM1.out.bel.trans (bel_drew _ _ |>.mono (by first | exact HTM1.out.bel.size | simp))⟩
          · have d0 : decide (x.frm < tq) = false := decide_eq_false hbad
            have HN := Lib.hid (HNXT.out hbad)
            clear hbad
            go_wp2
            go_quiet (fail)
            go_wp2
            go_roundw
            case rel => exact ⟨j + 1, tset t1 q x.to, by omega, by go_num, (HTM1.out.drewN _).set _, HN.out, HQ1.out.keep eh_steady (fun b hb => by
                refine (Below.heap_setCell _ _ _ _ ?_).trans rfl
                rcases hb with hb | hb
                · exact Nat.ne_of_lt hb
                · have := (HQ1.out.own b hb).1
                  have := HG2.out
                  show b ≠ w.heap.size
                  omega), (HBX1.out.next (bel_drew _ _)).other (by have := HGX.out.1; omega)⟩
            case measure => simp [intOf]; omega
        · have hjm : j = m2 := by omega
          have HN := Lib.hid (HTL1.out.step (by rw [HML.out]; exact hlt) (by rw [HXX.out, HX2.out]; omega))
          go_wp2
          go_roundw
          case rel => exact ⟨k + 1, t1, by omega, by go_num, HTM1.out, HN.out, HQ1.out⟩
          case measure => simp [intOf]; omega
    · have hkn : k = n := by omega
      have HRES : Hid (v = false) := Lib.hid (by
        rw [← HV.out]
        unfold twiceB
        rw [decide_eq_true (HP.out.1 (HTL.out.all (by rw [HML.out]; omega)))]
        rfl)
      go_wp2
      go_ret
      exact ⟨by rw [HRES.out]; rfl, HTM.out.bel⟩

end Go.Proofs.Ytbiofikijehlcaa

namespace Go.Proofs.Ytbiofikijehlcaa
open Go.RowKit

set_option maxRecDepth 100000 in
set_option maxHeartbeats 8000000 in
theorem heldRight_any (A : Option Addr) (n c : Nat) (l : Tb) (w : World) (hr : RT w w.heap.size A n l) (hnil : A = none → c = 0) (hf : FewT l) :
    Calls Try.prog 18 #[.slice A n c] w fun e w' => e = .returned (.bool (rightT l)) ∧ Below w.heap.size w w' := by
  have HR0 := Lib.hid hr
  have HL := Lib.hid hr.len
  have HNIL := Lib.hid hnil
  have HF := Lib.hid hf
  have hn : n ≤ 100 := by rw [← hr.len]; exact hf.1
  obtain ⟨rv, hrv⟩ : ∃ v, rightT l = v := ⟨_, rfl⟩
  have HV := Lib.hid hrv
  rw [hrv]
  clear hr hnil hf hrv
  go_enter Try.func18, Try.ntmps18
  go_wp2
  go_loopw [10] (fun iv wr => ∃ i : Nat, i ≤ n ∧ iv = .int .i64 i ∧ Rise l i ∧ Below w.heap.size w wr) (fun iv _ => n - (intOf iv).toNat)
  case atStart => exact ⟨0, Nat.zero_le _, rfl, rise_zero l, Below.refl _ _⟩
  case round =>
    obtain ⟨i, hi, rfl, hrp, hbel⟩ := hrel
    have HRP := Lib.hid hrp
    have HB := Lib.hid hbel
    have HR := Lib.hid (HR0.out.next hbel)
    clear hrp hbel
    by_cases hlt : i < n
    · obtain ⟨b, off, A2, m2, c2, rfl, hbl, c0, c1, c2', c3, hx⟩ := HR.out.one hlt
      obtain ⟨x, hxx⟩ : ∃ x, l.getD i hd0 = x := ⟨_, rfl⟩
      rw [hxx] at c0 c2' c3 hx
      have HXX := Lib.hid hxx
      have hil : i < l.length := by rw [HL.out]; exact hlt
      have hba : Below wr.heap.size wr (wr.alloc (hO x A2 m2 c2)) := (Below.refl _ _).alloc (Nat.le_refl _) _
      have HXa := Lib.hid (hx.next hba)
      have HRa := Lib.hid (HR.out.next hba)
      have HBa := Lib.hid (HB.out.trans (hba.mono HB.out.size))
      have HBX : Hid (BoxH (wr.alloc (hO x A2 m2 c2)) wr.heap.size x A2 m2 c2) := Lib.hid (boxH_new wr x A2 m2 c2)
      have hbl' : b < (wr.alloc (hO x A2 m2 c2)).heap.size := by simp; omega
      unfold hO at HXa HRa HBa HBX hbl'
      obtain ⟨Wa, hWa⟩ : ∃ Wa, wr.alloc (.cells #[.int .i64 x.id, .slice A2 m2 c2, .int .i64 x.frm, .int .i64 x.to] 36) = Wa := ⟨_, rfl⟩
      rw [hWa] at HXa HRa HBa HBX hbl'
      clear hx hxx hba HR HB
      have HB := Lib.hid HBa.out
      have HX := Lib.hid HXa.out
      have HR := Lib.hid HRa.out
      clear HBa HXa HRa
      by_cases hm : MayH x
      · have HMX := Lib.hid hm
        have EM : Hid (mayH x = true) := Lib.hid (decide_eq_true hm)
        clear hm
        by_cases h0 : 0 < i
        · obtain ⟨b', off', A4, m4, c4, e1, hbl2, e0, _, _, _, _⟩ := HR.out.one (show i - 1 < n by omega)
          injection e1 with e1
          injection e1 with e2 e3
          subst e2 e3
          obtain ⟨y, hy⟩ : ∃ y, (l.getD (i - 1) hd0).id = y := ⟨_, rfl⟩
          rw [hy] at e0
          have HYI := Lib.hid hy
          have g0 : decide (0 < i) = true := decide_eq_true h0
          have g1 : ((i : Int) - 1) = ((i - 1 : Nat) : Int) := by omega
          have hiz : (0 : Int) ≤ (i : Int) - 1 := by omega
          have hin : (i : Int) - 1 < (n : Int) := by omega
          clear hy hbl2
          by_cases h1 : x.id ≤ y
          · have g2 : decide (x.id ≤ y) = true := decide_eq_true h1
            have HNO : Hid (rightT l = false) := Lib.hid (Rise.bad_id hil h0 (by rw [HXX.out, HYI.out]; exact h1))
            clear h1
            go_wp2_with (simp only [hWa])
            clear hWa c0 c1 c2' c3
            have zc0 : ∀ p : Later Wa, p.now.cell? ⟨wr.heap.size, 0, none⟩ = some (.int .i64 x.id) := fun _ => Later.cell HBX.out.lt HBX.out.c0
            have zc1 : ∀ p : Later Wa, p.now.cell? ⟨wr.heap.size, 1, none⟩ = some (.slice A2 m2 c2) := fun _ => Later.cell HBX.out.lt HBX.out.c1
            have zc2 : ∀ p : Later Wa, p.now.cell? ⟨wr.heap.size, 2, none⟩ = some (.int .i64 x.frm) := fun _ => Later.cell HBX.out.lt HBX.out.c2
            have zc3 : ∀ p : Later Wa, p.now.cell? ⟨wr.heap.size, 3, none⟩ = some (.int .i64 x.to) := fun _ => Later.cell HBX.out.lt HBX.out.c3
            have zc4 : ∀ p : Later Wa, p.now.cell? ⟨b, off + (i - 1) * 4, none⟩ = some (.int .i64 y) := fun _ => Later.cell hbl' e0
            refine wp_region_later (by kernel_rfl) (by kernel_rfl) ?_
            repeat (first | go_big_quiet_skip | (go_big_quiet_want; go_big_quiet_op; first | go_big_quiet_on | (apply Exists.intro; refine ⟨fun pz => ?_, ?_⟩; (first | (go_at_call 35; exact Calls.later_of (may_any (HX.out.next pz.bel) EM.out)) | fail); go_big_quiet_on)))
            refine wpQuiet_nil ?_
            intro _ hw'
            obtain ⟨pz, rfl⟩ := hw'
            obtain ⟨w1, hb⟩ := pz
            try dsimp only
            clear zc0 zc1 zc2 zc3 zc4
            have HBq := Lib.hid (HB.out.trans (hb.mono HB.out.size))
            clear HB
            have HB := HBq
            clear HBq
            have HXq := Lib.hid (HX.out.next hb)
            clear HX
            have HX := HXq
            clear HXq
            have HRq := Lib.hid (HR.out.next hb)
            clear HR
            have HR := HRq
            clear HRq
            clear hb
            go_wp2
            go_ret
            exact ⟨by rw [← HV.out, HNO.out]; rfl, HB.out⟩
          · have g2 : decide (x.id ≤ y) = false := decide_eq_false h1
            have HID : Hid (0 < i → (l.getD (i - 1) hd0).id < (l.getD i hd0).id) := Lib.hid (fun _ => by rw [HYI.out, HXX.out]; omega)
            clear h1
            go_wp2_with (simp only [hWa])
            clear hWa c0 c1 c2' c3
            have zc0 : ∀ p : Later Wa, p.now.cell? ⟨wr.heap.size, 0, none⟩ = some (.int .i64 x.id) := fun _ => Later.cell HBX.out.lt HBX.out.c0
            have zc1 : ∀ p : Later Wa, p.now.cell? ⟨wr.heap.size, 1, none⟩ = some (.slice A2 m2 c2) := fun _ => Later.cell HBX.out.lt HBX.out.c1
            have zc2 : ∀ p : Later Wa, p.now.cell? ⟨wr.heap.size, 2, none⟩ = some (.int .i64 x.frm) := fun _ => Later.cell HBX.out.lt HBX.out.c2
            have zc3 : ∀ p : Later Wa, p.now.cell? ⟨wr.heap.size, 3, none⟩ = some (.int .i64 x.to) := fun _ => Later.cell HBX.out.lt HBX.out.c3
            have zc4 : ∀ p : Later Wa, p.now.cell? ⟨b, off + (i - 1) * 4, none⟩ = some (.int .i64 y) := fun _ => Later.cell hbl' e0
            refine wp_region_later (by kernel_rfl) (by kernel_rfl) ?_
            repeat (first | go_big_quiet_skip | (go_big_quiet_want; go_big_quiet_op; first | go_big_quiet_on | (apply Exists.intro; refine ⟨fun pz => ?_, ?_⟩; (first | (go_at_call 35; exact Calls.later_of (may_any (HX.out.next pz.bel) EM.out)) | fail); go_big_quiet_on)))
            refine wpQuiet_nil ?_
            intro _ hw'
            obtain ⟨pz, rfl⟩ := hw'
            obtain ⟨w1, hb⟩ := pz
            try dsimp only
            clear zc0 zc1 zc2 zc3 zc4
            have HBq := Lib.hid (HB.out.trans (hb.mono HB.out.size))
            clear HB
            have HB := HBq
            clear HBq
            have HXq := Lib.hid (HX.out.next hb)
            clear HX
            have HX := HXq
            clear HXq
            have HRq := Lib.hid (HR.out.next hb)
            clear HR
            have HR := HRq
            clear HRq
            clear hb
            go_wp2
            go_roundw
            case rel => exact ⟨i + 1, by omega, by go_num, HRP.out.next (by rw [HL.out]; exact hlt) (by rw [HXX.out]; exact HMX.out) HID.out, HB.out⟩
            case measure => simp [intOf]; omega
        · have g0 : decide (0 < i) = false := decide_eq_false h0
          have HID : Hid (0 < i → (l.getD (i - 1) hd0).id < (l.getD i hd0).id) := Lib.hid (fun h => absurd h h0)
          go_wp2_with (simp only [hWa])
          clear hWa c0 c1 c2' c3
          have zc0 : ∀ p : Later Wa, p.now.cell? ⟨wr.heap.size, 0, none⟩ = some (.int .i64 x.id) := fun _ => Later.cell HBX.out.lt HBX.out.c0
          have zc1 : ∀ p : Later Wa, p.now.cell? ⟨wr.heap.size, 1, none⟩ = some (.slice A2 m2 c2) := fun _ => Later.cell HBX.out.lt HBX.out.c1
          have zc2 : ∀ p : Later Wa, p.now.cell? ⟨wr.heap.size, 2, none⟩ = some (.int .i64 x.frm) := fun _ => Later.cell HBX.out.lt HBX.out.c2
          have zc3 : ∀ p : Later Wa, p.now.cell? ⟨wr.heap.size, 3, none⟩ = some (.int .i64 x.to) := fun _ => Later.cell HBX.out.lt HBX.out.c3
          refine wp_region_later (by kernel_rfl) (by kernel_rfl) ?_
          repeat (first | go_big_quiet_skip | (go_big_quiet_want; go_big_quiet_op; first | go_big_quiet_on | (apply Exists.intro; refine ⟨fun pz => ?_, ?_⟩; (first | (go_at_call 35; exact Calls.later_of (may_any (HX.out.next pz.bel) EM.out)) | fail); go_big_quiet_on)))
          refine wpQuiet_nil ?_
          intro _ hw'
          obtain ⟨pz, rfl⟩ := hw'
          obtain ⟨w1, hb⟩ := pz
          try dsimp only
          clear zc0 zc1 zc2 zc3
          have HBq := Lib.hid (HB.out.trans (hb.mono HB.out.size))
          clear HB
          have HB := HBq
          clear HBq
          have HXq := Lib.hid (HX.out.next hb)
          clear HX
          have HX := HXq
          clear HXq
          have HRq := Lib.hid (HR.out.next hb)
          clear HR
          have HR := HRq
          clear HRq
          clear hb
          go_wp2
          go_roundw
          case rel => exact ⟨i + 1, by omega, by go_num, HRP.out.next (by rw [HL.out]; exact hlt) (by rw [HXX.out]; exact HMX.out) HID.out, HB.out⟩
          case measure => simp [intOf]; omega
      · have EM : Hid (mayH x = false) := Lib.hid (decide_eq_false hm)
        have HNO : Hid (rightT l = false) := Lib.hid (Rise.bad_may hil (by rw [HXX.out]; exact EM.out))
        clear hm
        go_wp2_with (simp only [hWa])
        clear hWa c0 c1 c2' c3
        have zc0 : ∀ p : Later Wa, p.now.cell? ⟨wr.heap.size, 0, none⟩ = some (.int .i64 x.id) := fun _ => Later.cell HBX.out.lt HBX.out.c0
        have zc1 : ∀ p : Later Wa, p.now.cell? ⟨wr.heap.size, 1, none⟩ = some (.slice A2 m2 c2) := fun _ => Later.cell HBX.out.lt HBX.out.c1
        have zc2 : ∀ p : Later Wa, p.now.cell? ⟨wr.heap.size, 2, none⟩ = some (.int .i64 x.frm) := fun _ => Later.cell HBX.out.lt HBX.out.c2
        have zc3 : ∀ p : Later Wa, p.now.cell? ⟨wr.heap.size, 3, none⟩ = some (.int .i64 x.to) := fun _ => Later.cell HBX.out.lt HBX.out.c3
        refine wp_region_later (by kernel_rfl) (by kernel_rfl) ?_
        repeat (first | go_big_quiet_skip | (go_big_quiet_want; go_big_quiet_op; first | go_big_quiet_on | (apply Exists.intro; refine ⟨fun pz => ?_, ?_⟩; (first | (go_at_call 35; exact Calls.later_of (may_any (HX.out.next pz.bel) EM.out)) | fail); go_big_quiet_on)))
        refine wpQuiet_nil ?_
        intro _ hw'
        obtain ⟨pz, rfl⟩ := hw'
        obtain ⟨w1, hb⟩ := pz
        try dsimp only
        clear zc0 zc1 zc2 zc3
        have HBq := Lib.hid (HB.out.trans (hb.mono HB.out.size))
        clear HB
        have HB := HBq
        clear HBq
        have HXq := Lib.hid (HX.out.next hb)
        clear HX
        have HX := HXq
        clear HXq
        have HRq := Lib.hid (HR.out.next hb)
        clear HR
        have HR := HRq
        clear HRq
        clear hb
        go_wp2
        go_ret
        exact ⟨by rw [← HV.out, HNO.out]; rfl, HB.out⟩
    · have hin : i = n := by omega
      have hil : i = l.length := by rw [HL.out]; exact hin
      have HRE : Hid (Rise l l.length) := Lib.hid (by rw [← hil]; exact HRP.out)
      have HE : Hid (rv = !twiceB l) := Lib.hid (by rw [← HV.out]; exact HRE.out.end (by rw [HL.out]; omega))
      clear hil
      go_wp2_with fail
      refine (twice_any A n c l wr HR.out HNIL.out HF.out (fun x hx => HRE.out.may x (by rw [List.take_length]; exact hx))).mono ?_
      rintro e w2 ⟨rfl, hb⟩
      have HB2 := Lib.hid (HB.out.trans (hb.mono HB.out.size))
      obtain ⟨tv, htv⟩ : ∃ v, twiceB l = v := ⟨_, rfl⟩
      rw [htv] at HE ⊢
      clear hb htv
      go_wp2
      go_ret
      exact ⟨by rw [HE.out]; rfl, HB2.out⟩
theorem heldRight_b {A : Option Addr} {n c : Nat} {l : Tb} {w : World} {v : Bool} (hr : RT w w.heap.size A n l) (hnil : A = none → c = 0) (hf : FewT l) (h : rightT l = v) :
    Calls Try.prog 18 #[.slice A n c] w fun e w' => e = .returned (.bool v) ∧ Below w.heap.size w w' := by
  subst h; exact heldRight_any A n c l w hr hnil hf

end Go.Proofs.Ytbiofikijehlcaa

namespace Go.Proofs.Ytbiofikijehlcaa
open Go.RowKit

/-- the cells of marks -/
def marksA (p : Nat → Bool) : Array Value := ((List.range 256).map fun k => Value.bool (p k)).toArray
theorem marksA_size (p : Nat → Bool) : (marksA p).size = 256 := by unfold marksA; simp
theorem marksA_at (p : Nat → Bool) {k : Nat} (hk : k < 256) : (marksA p)[k]? = some (.bool (p k)) := by unfold marksA; simp [hk]
/-- one mark more, or less -/
def mset (p : Nat → Bool) (k : Nat) (b : Bool) : Nat → Bool := fun j => if j = k then b else p j
theorem mset_same (p : Nat → Bool) (k : Nat) (b : Bool) : mset p k b k = b := by unfold mset; rw [if_pos rfl]
theorem mset_other (p : Nat → Bool) {k j : Nat} (b : Bool) (h : j ≠ k) : mset p k b j = p j := by unfold mset; rw [if_neg h]
theorem marksA_set (p : Nat → Bool) (k : Nat) (b : Bool) : (marksA p).setIfInBounds k (.bool b) = marksA (mset p k b) := by
  apply Array.ext
  · simp [marksA_size]
  · intro j h1 h2
    rw [marksA_size] at h2
    have e2 := marksA_at (mset p k b) h2
    rw [Array.getElem?_eq_getElem (by rw [marksA_size]; exact h2)] at e2
    have e2' := Option.some.inj e2
    rw [e2', Array.getElem_setIfInBounds (by rw [marksA_size]; exact h2)]
    split
    · rename_i h; subst h; rw [mset_same]
    · rename_i h
      have e1 := marksA_at p h2
      rw [Array.getElem?_eq_getElem (by rw [marksA_size]; exact h2)] at e1
      rw [Option.some.inj e1, mset_other _ _ (fun e => h e.symm)]
theorem marksA_ext {p q : Nat → Bool} (h : ∀ k, k < 256 → p k = q k) : marksA p = marksA q := by
  unfold marksA
  congr 1
  apply List.map_congr_left
  intro k hk
  rw [h k (List.mem_range.1 hk)]

theorem marks_closed : (Try.prog.info? 68).map (fun i => (i.zero.map Value.cells, i.size)) = some (some (marksA fun _ => false), 256) := by kernel_rfl
theorem marks_size : (Try.prog.info? 68).map (·.size) = some 256 := by kernel_rfl

/-- marks in a new block, behind a world -/
structure Marks (W : World) (p : Nat → Bool) (wr : World) : Prop where
  bel : Below W.heap.size W wr
  at' : wr.heap[W.heap.size]? = some (.cells (marksA p) 68 (0, 0))
section
variable {W wr w' : World} {p : Nat → Bool} {k : Nat}
theorem Marks.lt (h : Marks W p wr) : W.heap.size < wr.heap.size := (Array.getElem?_eq_some_iff.1 h.at').1
theorem Marks.cell (h : Marks W p wr) (hk : k < 256) : wr.cell? ⟨W.heap.size, k, none⟩ = some (.bool (p k)) := by
  rw [cell_of_row _ _ _ _ _ _ h.at', marksA_at p hk]
theorem Marks.frozen (h : Marks W p wr) (k : Nat) : wr.frozen? ⟨W.heap.size, k, none⟩ = false := frozen_of_row _ _ _ _ _ h.at'
theorem Marks.next (h : Marks W p wr) (hb : Below wr.heap.size wr w') : Marks W p w' := ⟨h.bel.trans (hb.mono h.bel.size), (hb.block _ h.lt).trans h.at'⟩
theorem Marks.drewN (h : Marks W p wr) (q : Nat) : Marks W p (wr.drewN q) := h.next (bel_drew wr q)
theorem Marks.set (h : Marks W p wr) (b : Bool) : Marks W (mset p k b) (wr.setCell ⟨W.heap.size, k, none⟩ (.bool b)) := by
  refine ⟨h.bel.setCell (Nat.le_refl _) _, ?_⟩
  rw [heap_setCell_same wr W.heap.size k _ _ _ h.at', marksA_set]
theorem Marks.ext {q : Nat → Bool} (h : Marks W p wr) (he : ∀ k, k < 256 → p k = q k) : Marks W q wr := ⟨h.bel, by rw [h.at', marksA_ext he]⟩
theorem marks_made (W : World) : Marks W (fun _ => false) (W.alloc (.cells (marksA fun _ => false) 68)) :=
  ⟨(Below.refl _ _).alloc (Nat.le_refl _) _, heap_alloc_new W _⟩
theorem marks_boxed (W : World) (p : Nat → Bool) : Marks W p (W.alloc (.cells (marksA p) 68)) :=
  ⟨(Below.refl _ _).alloc (Nat.le_refl _) _, heap_alloc_new W _⟩
end

/-- 'var in marks' -/
theorem wpList_alloc_marks {ops : Array Oper} {rest : List Oper} {o : Oper} {a : Act} {Q : Exit → Act → World → Prop} {w : World} (hgd : o.guard = none) (ho : o.op = .alloc 68)
    (h : ∀ w', Marks w (fun _ => false) w' → wpList Try.prog ops Q rest (a.put o.dst (.pointer (some ⟨w.heap.size, 0, none⟩))) w') : wpList Try.prog ops Q (o :: rest) a w := by
  refine wpList_plain hgd fun K hK => ?_
  have hc := marks_closed
  cases hi : Try.prog.info? 68 with
  | none => rw [hi] at hc; cases hc
  | some i =>
    rw [hi] at hc
    simp only [Option.map_some, Option.some.injEq, Prod.mk.injEq] at hc
    obtain ⟨z, hz, hzc⟩ : ∃ z, i.zero = some z ∧ z.cells = marksA fun _ => false := by
      cases hz : i.zero with
      | none => rw [hz] at hc; cases hc.1
      | some z => rw [hz] at hc; exact ⟨z, rfl, Option.some.inj hc.1⟩
    have hrun : (Instr.alloc 68 true (.tuple #[])).run Try.prog w = .ok (.pointer (some ⟨w.heap.size, 0, none⟩)) (w.alloc (.cells (marksA fun _ => false) 68)) := by
      simp [Instr.alloc, zeroValue, typeInfo, hi, hz, newVar, newRow, hzc]
    unfold Oper.wp
    simp [execOp, ho, hrun, Result.andThen]
    exact hK _ _ (h _ (marks_made w))
/-- 'in', as a value -/
theorem wpList_load_marks {ops : Array Oper} {rest : List Oper} {o : Oper} {a : Act} {Q : Exit → Act → World → Prop} {W w : World} {p : Nat → Bool} (hgd : o.guard = none) (x : Operand) (ho : o.op = .load 68 x)
    (hm : Marks W p w) (hx : a.eval x = .pointer (some ⟨W.heap.size, 0, none⟩))
    (h : wpList Try.prog ops Q rest (a.put o.dst (.agg (marksA p))) w) : wpList Try.prog ops Q (o :: rest) a w :=
  wpList_load_row hgd _ x ho W.heap.size hx _ (marksA p) (0, 0) _ hm.at' Try.underlying68 rfl (by rw [marks_size, marksA_size]) h
/-- a mark of a value of marks -/
theorem run_ix_marks (p : Nat → Bool) {k : Nat} (hk : k < 256) (W : World) : (Instr.index 68 (.agg (marksA p)) (.int .i64 (k : Int))).run Try.prog W = .ok (.bool (p k)) W := by
  have h1 := marksA_at p hk
  have h2 : k < 256 := hk
  simp [Instr.index, run_underlying Try.underlying68, asIntOf, part, isAgg, run_underlying Try.underlying4, Try.sizeOf4, h1, h2]

end Go.Proofs.Ytbiofikijehlcaa
