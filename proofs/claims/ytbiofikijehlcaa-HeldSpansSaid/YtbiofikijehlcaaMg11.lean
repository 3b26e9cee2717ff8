/- Go's slices.Sort and slices.Compact of times (int64) at this dump, by the library's contract. slices.Sort and slices.Compact of times, by the library's contracts, in a row of one's own. The program's Over of layer 10. The program's Busy, Get, Drop of layer 10. Written by gen/gen_heldpget.py. The program's Ends of layer 10. A table's copy in memory of its own, told so that a block between what was there and what the call makes is left out: for results that lie in a cell. The program's Drop of layer 10. Written by gen/gen_heldpdrop.py. -/
import Derived.Shelf.SortM.Plain
import Derived.Shelf.SortM.SortNone
import Derived.Shelf.SlicesE.Compact
import Derived.Test.YtbiofikijehlcaaProg
import Derived.Test.YtbiofikijehlcaaMg10
import Derived.Test.YtbiofikijehlcaaMg07
namespace Go.Proofs
open Go.Shelf
open Go.RowKit
def Try.sortTimes_ren : Go.Shelf.Ren := ⟨fun | 5 => 33 | 7 => 49 | 8 => 50 | 10 => 60 | 11 => 61 | 12 => 62 | 13 => 63 | 14 => 64 | 15 => 65 | 16 => 66 | 17 => 67 | 18 => 68 | 19 => 69 | 20 => 70 | 30 => 76 | 31 => 77 | 32 => 78 | 33 => 79 | 34 => 80 | 35 => 81 | 40 => 84 | n => n, fun | 0 => 0 | 3 => 3 | 4 => 4 | 5 => 5 | 9 => 9 | 22 => 32 | 23 => 32 | 25 => 2 | 32 => 72 | 35 => 82 | 36 => 83 | 41 => 57 | 44 => 90 | 46 => 61 | 53 => 96 | 57 => 100 | 63 => 104 | 64 => 105 | n => n, fun | n => n⟩
theorem Try.sortTimes : Go.Proofs.SlLaysM.n5 Try.prog Try.sortTimes_ren := {
  mixed := by kernel_rfl
  f5 := ⟨Try.f33.name, by decide, Try.func33.trans (congrArg some (by kernel_rfl))⟩
  f7 := ⟨Try.f49.name, by decide, Try.func49.trans (congrArg some (by kernel_rfl))⟩
  f8 := Try.func50.trans (congrArg some (by kernel_rfl))
  f10 := ⟨Try.f60.name, by decide, Try.func60.trans (congrArg some (by kernel_rfl))⟩
  f11 := ⟨Try.f61.name, by decide, Try.func61.trans (congrArg some (by kernel_rfl))⟩
  f12 := ⟨Try.f62.name, by decide, Try.func62.trans (congrArg some (by kernel_rfl))⟩
  f13 := ⟨Try.f63.name, by decide, Try.func63.trans (congrArg some (by kernel_rfl))⟩
  f14 := ⟨Try.f64.name, by decide, Try.func64.trans (congrArg some (by kernel_rfl))⟩
  f15 := ⟨Try.f65.name, by decide, Try.func65.trans (congrArg some (by kernel_rfl))⟩
  f16 := ⟨Try.f66.name, by decide, Try.func66.trans (congrArg some (by kernel_rfl))⟩
  f17 := ⟨Try.f67.name, by decide, Try.func67.trans (congrArg some (by kernel_rfl))⟩
  f18 := ⟨Try.f68.name, by decide, Try.func68.trans (congrArg some (by kernel_rfl))⟩
  f19 := Try.func69.trans (congrArg some (by kernel_rfl))
  f20 := Try.func70.trans (congrArg some (by kernel_rfl))
  f30 := ⟨Try.f76.name, by decide, Try.func76.trans (congrArg some (by kernel_rfl))⟩
  f31 := Try.func77.trans (congrArg some (by kernel_rfl))
  f32 := Try.func78.trans (congrArg some (by kernel_rfl))
  f33 := ⟨Try.f79.name, by decide, Try.func79.trans (congrArg some (by kernel_rfl))⟩
  f34 := ⟨Try.f80.name, by decide, Try.func80.trans (congrArg some (by kernel_rfl))⟩
  f35 := ⟨Try.f81.name, by decide, Try.func81.trans (congrArg some (by kernel_rfl))⟩
  f40 := ⟨Try.f84.name, by decide, Try.func84.trans (congrArg some (by kernel_rfl))⟩
  t0 := Try.underlying0
  a0 := Try.isAgg0
  z0 := Try.sizeOf0
  v0 := Try.zeroValue0
  t3 := Try.underlying3
  a3 := Try.isAgg3
  z3 := Try.sizeOf3
  v3 := Try.zeroValue3
  t4 := Try.underlying4
  a4 := Try.isAgg4
  z4 := Try.sizeOf4
  v4 := Try.zeroValue4
  t5 := Try.underlying5
  a5 := Try.isAgg5
  z5 := Try.sizeOf5
  v5 := Try.zeroValue5
  t9 := Try.underlying9
  a9 := Try.isAgg9
  z9 := Try.sizeOf9
  v9 := Try.zeroValue9
  t22 := Try.underlying32
  a22 := Try.isAgg32
  z22 := Try.sizeOf32
  v22 := Try.zeroValue32
  t23 := Try.underlying32
  a23 := Try.isAgg32
  z23 := Try.sizeOf32
  v23 := Try.zeroValue32
  t25 := Try.underlying2
  a25 := Try.isAgg2
  z25 := Try.sizeOf2
  v25 := Try.zeroValue2
  t32 := Try.underlying72
  a32 := Try.isAgg72
  z32 := Try.sizeOf72
  v32 := Try.zeroValue72
  t35 := Try.underlying82
  a35 := Try.isAgg82
  z35 := Try.sizeOf82
  v35 := Try.zeroValue82
  t36 := Try.underlying83
  a36 := Try.isAgg83
  z36 := Try.sizeOf83
  v36 := Try.zeroValue83
  t41 := Try.underlying57
  a41 := Try.isAgg57
  z41 := Try.sizeOf57
  v41 := Try.zeroValue57
  t44 := Try.underlying90
  a44 := Try.isAgg90
  z44 := Try.sizeOf90
  v44 := Try.zeroValue90
  t46 := Try.underlying61
  a46 := Try.isAgg61
  z46 := Try.sizeOf61
  v46 := Try.zeroValue61
  t53 := Try.underlying96
  a53 := Try.isAgg96
  z53 := Try.sizeOf96
  v53 := Try.zeroValue96
  t57 := Try.underlying100
  a57 := Try.isAgg100
  z57 := Try.sizeOf100
  v57 := Try.zeroValue100
  t63 := Try.underlying104
  a63 := Try.isAgg104
  z63 := Try.sizeOf104
  v63 := Try.zeroValue104
  t64 := Try.underlying105
  a64 := Try.isAgg105
  z64 := Try.sizeOf105
  v64 := Try.zeroValue105
}
def Try.compactTimes_ren : Go.Shelf.Ren := ⟨fun | 43 => 34 | n => n, fun | 0 => 0 | 3 => 3 | 4 => 4 | 22 => 32 | 23 => 2 | n => n, fun | n => n⟩
theorem Try.compactTimes : Go.Proofs.SlLaysE.n43 Try.prog Try.compactTimes_ren := {
  mixed := by kernel_rfl
  f43 := ⟨Try.f34.name, by decide, Try.func34.trans (congrArg some (by kernel_rfl))⟩
  t0 := Try.underlying0
  a0 := Try.isAgg0
  z0 := Try.sizeOf0
  v0 := Try.zeroValue0
  t3 := Try.underlying3
  a3 := Try.isAgg3
  z3 := Try.sizeOf3
  v3 := Try.zeroValue3
  t4 := Try.underlying4
  a4 := Try.isAgg4
  z4 := Try.sizeOf4
  v4 := Try.zeroValue4
  t22 := Try.underlying32
  a22 := Try.isAgg32
  z22 := Try.sizeOf32
  v22 := Try.zeroValue32
  a23 := Try.isAgg2
  z23 := Try.sizeOf2
}

end Go.Proofs

namespace Go.Proofs.Ytbiofikijehlcaa
open Go.RowKit Go.Sort

theorem int64_info : (Try.prog.info? 2).map (fun i => (i.zero, i.size, i.bytes)) = some (some (.int .i64 0), 1, 8) := by kernel_rfl
theorem ends_take_yes {l : Tb} {k : Nat} {z : Int} (hk : k < l.length) (h : z < (l.getD k hd0).to) : ((l.take (k + 1)).map Hd.to).filter (fun t => decide (z < t)) = ((l.take k).map Hd.to).filter (fun t => decide (z < t)) ++ [(l.getD k hd0).to] := by
  rw [getD_at hk] at h ⊢
  rw [List.take_succ_eq_append_getElem hk, List.map_append, List.filter_append]
  simp [h]
theorem ends_take_no {l : Tb} {k : Nat} {z : Int} (hk : k < l.length) (h : ¬ z < (l.getD k hd0).to) : ((l.take (k + 1)).map Hd.to).filter (fun t => decide (z < t)) = ((l.take k).map Hd.to).filter (fun t => decide (z < t)) := by
  rw [getD_at hk] at h
  rw [List.take_succ_eq_append_getElem hk, List.map_append, List.filter_append]
  simp [h]
theorem put_below {B g q : Nat} {w0 w : World} {d : Array Int} (h : Below B w0 w) (hB : B ≤ g) : Below B w0 (putRow (Value.int .i64) (Sort.ahead w q) g 0 d) := by
  refine h.trans ⟨rfl, rfl, rfl, by simp [putRow, mapBlock], fun b hb => ?_⟩
  show ((Sort.ahead w q).heap.modify g (onCells (putCells (Value.int .i64) 0 d)))[b]? = _
  rw [Array.getElem?_modify, if_neg (by omega)]
  rfl
theorem grow_below {B : Nat} {w0 w : World} {os : Array Obj} (h : Below B w0 w) (hB : B ≤ w.heap.size) : Below B w0 (grow w os) :=
  h.trans ⟨rfl, rfl, rfl, by simp, fun b hb => heap_grow_old w os (by omega)⟩

set_option maxRecDepth 100000 in
set_option maxHeartbeats 2000000 in
/-- too short to hold a time twice -/
theorem compact_short (A : Option Addr) (n c : Nat) (w : World) (hn : n < 2) :
    Calls Try.prog 34 #[.slice A n c] w fun e w' => e = .returned (.slice A n c) ∧ w' = w := by
  have d0 : decide (n < 2) = true := decide_eq_true hn
  go_enter Try.func34, Try.ntmps34
  go_wp2
  go_ret
  exact ⟨rfl, rfl⟩
/-- sorted in place -/
theorem sortTimes_any (A : Option Addr) (n c : Nat) (L : List Int) (w wr : World) (hO : ON EI 1 2 w (.slice A n c) L wr) (hln : L.length = n) (hn : n ≤ 1000) :
    Calls Try.prog 33 #[.slice A n c] wr fun e w' => e = .returned (.tuple #[]) ∧ Below w.heap.size w w' ∧ (n = 0 ∨ ∃ g, A = some ⟨g, 0, none⟩ ∧ w.heap.size ≤ g ∧ g < w'.heap.size ∧ Holds (Value.int .i64) w' g 0 (L.mergeSort fun x y => decide (x ≤ y)).toArray) := by
  rcases Nat.eq_zero_or_pos n with h0 | h0
  · subst h0
    have hcon := Go.Proofs.AnyM.slices_Sort_int_none Try.sortTimes A c wr
    change Calls Try.prog 33 _ _ _ at hcon
    exact hcon.mono fun e w' ⟨h1, h2⟩ => ⟨h1, by rw [h2]; exact hO.below, .inl rfl⟩
  · obtain ⟨h1, h2⟩ := on_own hO
    obtain ⟨g, rfl, hgb, hgl⟩ := hO.head h0
    rw [hln] at h1
    have hH : Holds (Value.int .i64) wr g 0 L.toArray := fun j hj => by
      have hj' : j < L.length := by simpa using hj
      rw [Nat.zero_add, h1.cellAt j (by omega), h1.frozenAt j, List.getElem?_map, List.getElem?_eq_getElem hj', arr_at hj']
      exact ⟨rfl, rfl⟩
    have hcon := Go.Proofs.AnyM.slices_Sort_int Try.sortTimes g 0 c L wr hH hgl (by omega)
    change Calls Try.prog 33 _ _ _ at hcon
    rw [hln] at hcon
    refine hcon.mono fun e w' ⟨e1, q, os, e2⟩ => ⟨e1, ?_, .inr ⟨g, rfl, hgb, ?_, ?_⟩⟩
    · rw [e2]
      exact grow_below (put_below h2 hgb) (by simp [putRow, mapBlock]; exact h2.size)
    · rw [e2]
      simp [putRow, mapBlock]
      show g < wr.heap.size + _
      omega
    · rw [e2]
      exact holds_grow _ _ _ _ _ _ (by simp [putRow, mapBlock]; exact hgl) (holds_putRow _ _ _ _ L.toArray _ (holds_ahead _ _ _ _ _ _ hH) (by simp))

/-- each once -/
theorem compactTimes_any (g n c : Nat) (S : List Int) (w wr : World) (hb : Below w.heap.size w wr) (hgb : w.heap.size ≤ g) (hgl : g < wr.heap.size) (hH : Holds (Value.int .i64) wr g 0 S.toArray) (hln : S.length = n) (hn : n ≤ 1000) (hc : n ≤ c) :
    Calls Try.prog 34 #[.slice (some ⟨g, 0, none⟩) n c] wr (IPost (Lib.compactUpTo S.toArray S.length) w) := by
  have hsz : S.toArray.size = n := by simpa using hln
  have hcon := Go.Proofs.AnyE.slices_Compact Try.compactTimes (Value.int .i64) (fun _ => rfl) (Go.Proofs.EqlAt.intD _ _ _) (Go.Proofs.NeqAt.intD _ _ _) 0 Try.zeroValue2 g 0 c S.toArray wr hH (by omega) (by omega)
  change Calls Try.prog 34 _ _ _ at hcon
  rw [hsz] at hcon
  rw [hln]
  obtain ⟨L, hL⟩ : ∃ L, Lib.compactUpTo S.toArray n = L := ⟨_, rfl⟩
  have hLn : L.length ≤ n := by
    rw [← hL]
    unfold Lib.compactUpTo
    rw [List.length_map]
    have := List.length_filter_le (Lib.keeps S.toArray) (List.range n)
    rwa [List.length_range] at this
  rw [hL] at hcon ⊢
  refine hcon.mono fun e w' ⟨e1, q, e2⟩ => ?_
  have hP : Holds (Value.int .i64) w' g 0 (L ++ List.replicate (n - L.length) 0).toArray := by
    rw [e2]
    exact holds_putRow _ _ _ _ S.toArray _ (holds_ahead _ _ _ _ _ _ hH) (by simp; omega)
  have hgl' : g < w'.heap.size := by rw [e2]; simp [putRow, mapBlock]; exact hgl
  rw [e1]
  refine ipost_mk ⟨rfl, fun h0 => ⟨g, 0, rfl, hgl', fun j hj => ?_⟩⟩ (fun e => by cases e) (by omega) (by rw [e2]; exact put_below hb hgb)
  have h1 := (hP j (by simp; omega)).1
  rw [h1, arr_at (by simp; omega), List.getElem_append_left hj, List.getD, List.getElem?_eq_getElem hj]
  rfl


end Go.Proofs.Ytbiofikijehlcaa

namespace Go.Proofs.Ytbiofikijehlcaa
open Go.RowKit

set_option maxRecDepth 100000 in
set_option maxHeartbeats 8000000 in
theorem heldOver_no (A : Option Addr) (n c : Nat) (l : Tb) (now : Int) (w : World) (hl : TAsk w A n c l) (hf : FewT l) (hrt : rightT l = false) :
    Calls Try.prog 9 #[.slice A n c, .int .i64 now] w (TTPost l [] w) := by
  have HT := Lib.hid hl
  have HF := Lib.hid hf
  have R1 := Lib.hid hrt
  clear hl hf hrt
  go_enter Try.func9, Try.ntmps9
  go_wp2_with fail
  refine (heldRight_b HT.out.reads HT.out.nil HF.out R1.out).mono ?_
  rintro e w1 ⟨rfl, hb1⟩
  have HB1 := Lib.hid hb1
  have HT1 := Lib.hid (HT.out.next hb1)
  clear hb1
  go_wp2_with fail
  refine (heldSame_any A n c l w1 HT1.out.reads HT1.out.nil HF.out).mono ?_
  rintro e w2 ⟨v, rfl, hon⟩
  obtain ⟨A1, c1, rfl, h1, h2⟩ := hon.form
  have HP : Hid (TTPost l [] w (.returned (.tuple #[.slice A1 l.length c1, .slice none 0 0])) w2) := Lib.hid ⟨⟨A1, c1, none, 0, rfl, hon.reads eh_steady (by omega) rfl, RT.nil, ⟨h1, h2⟩, fun _ => rfl, Nat.le_refl _⟩, HB1.out.trans (hon.below.mono HB1.out.size)⟩
  clear hon h1 h2
  go_wp2
  go_ret2
  exact HP.out

set_option maxRecDepth 100000 in
set_option maxHeartbeats 8000000 in
theorem heldOver_yes (A : Option Addr) (n c : Nat) (l : Tb) (now : Int) (w : World) (hl : TAsk w A n c l) (hf : FewT l) (hrt : rightT l = true) :
    Calls Try.prog 9 #[.slice A n c, .int .i64 now] w (TTPost (restT l now) (goneT l now) w) := by
  obtain ⟨i0, hi0, hz0, hz1, hz2⟩ : ∃ i, Try.prog.info? 36 = some i ∧ i.zero = some (.agg #[.int .i64 0, .slice none 0 0, .int .i64 0, .int .i64 0]) ∧ i.size = 4 ∧ i.bytes = 48 := info_parts held_info
  have HT := Lib.hid hl
  have HF := Lib.hid hf
  have R1 := Lib.hid hrt
  have HL := Lib.hid hl.reads.len
  have hn100 : n ≤ 100 := by rw [← hl.reads.len]; exact hf.1
  have HE1 : Hid (restT l now = l.filter (fun x => decide (now < x.to))) := Lib.hid (by unfold restT; rw [if_pos hrt])
  have HE2 : Hid (goneT l now = l.filter (fun x => decide (x.to ≤ now))) := Lib.hid (by unfold goneT; rw [if_pos hrt])
  rw [HE1.out, HE2.out]
  obtain ⟨ga, hga⟩ : ∃ ga, l.filter (fun x => decide (now < x.to)) = ga := ⟨_, rfl⟩
  obtain ⟨gb, hgb⟩ : ∃ gb, l.filter (fun x => decide (x.to ≤ now)) = gb := ⟨_, rfl⟩
  rw [hga, hgb]
  have HGA := Lib.hid hga
  have HGB := Lib.hid hgb
  clear hl hf hrt hga hgb
  go_enter Try.func9, Try.ntmps9
  go_wp2_with fail
  refine (heldRight_b HT.out.reads HT.out.nil HF.out R1.out).mono ?_
  rintro e w1 ⟨rfl, hb1⟩
  have HB1 := Lib.hid hb1
  have HT1 := Lib.hid (HT.out.next hb1)
  clear hb1
  go_wp2_with fail
  refine (heldSame_any A n c l w1 HT1.out.reads HT1.out.nil HF.out).mono ?_
  rintro e w2 ⟨v, rfl, hon⟩
  obtain ⟨A1, c1, rfl, h1, h2⟩ := hon.form
  have HB2 := Lib.hid (HB1.out.trans (hon.below.mono HB1.out.size))
  have HS : Hid (RT w2 w2.heap.size A1 n l) := Lib.hid (by have := hon.reads eh_steady (by omega) rfl; rw [HL.out] at this; exact this)
  rw [HL.out]
  clear hon h1 h2
  go_wp2
  go_loopw [6, 7, 18] (fun rv gv kv wr => ∃ k : Nat, k ≤ n ∧ kv = .int .i64 k ∧ Two w2 rv ((l.take k).filter (fun x => decide (now < x.to))) gv ((l.take k).filter (fun x => decide (x.to ≤ now))) wr) (fun _ _ kv _ => n - (intOf kv).toNat)
  case atStart => exact ⟨0, Nat.zero_le _, rfl, ⟨OB.nil w2 (Below.refl _ _), OB.nil w2 (Below.refl _ _), fun g h => by cases h⟩⟩
  case round =>
    obtain ⟨k, hk, rfl, hrel⟩ := hrel
    have HK := Lib.hid hrel
    clear hrel
    by_cases hlt : k < n
    · have hkl : k < l.length := by rw [HL.out]; exact hlt
      have HLA : Hid (((l.take k).filter (fun x => decide (now < x.to))).length ≤ 1000) := Lib.hid (by have := List.length_filter_le (fun x : Hd => decide (now < x.to)) (l.take k); rw [List.length_take] at this; omega)
      have HLB : Hid (((l.take k).filter (fun x => decide (x.to ≤ now))).length ≤ 1000) := Lib.hid (by have := List.length_filter_le (fun x : Hd => decide (x.to ≤ now)) (l.take k); rw [List.length_take] at this; omega)
      obtain ⟨b, off, A2, m2, c2, rfl, hbl, c0, c1', c2', c3', hel⟩ := (HS.out.below HK.out.a.below).el hlt
      have hyes1 := filter_take_yes (p := fun x => decide (now < x.to)) hkl
      have hyes2 := filter_take_yes (p := fun x => decide (x.to ≤ now)) hkl
      have hno1 := filter_take_no (p := fun x => decide (now < x.to)) hkl
      have hno2 := filter_take_no (p := fun x => decide (x.to ≤ now)) hkl
      obtain ⟨x, hx⟩ : ∃ x, l.getD k hd0 = x := ⟨_, rfl⟩
      rw [hx] at c0 c2' c3' hel hyes1 hyes2 hno1 hno2
      have hba : Below wr.heap.size wr (wr.alloc (hO x A2 m2 c2)) := (Below.refl _ _).alloc (Nat.le_refl _) _
      have HKa := Lib.hid (HK.out.next hba)
      have HBX : Hid (BoxH (wr.alloc (hO x A2 m2 c2)) wr.heap.size x A2 m2 c2) := Lib.hid (boxH_new wr x A2 m2 c2)
      have HEL : Hid (EH (wr.alloc (hO x A2 m2 c2)) (Lt w2.heap.size) x _) := Lib.hid (eh_steady.keep hel (fun b' hb' => hba.block b' (Nat.lt_of_lt_of_le hb' HK.out.a.below.size)) (fun _ h => h))
      unfold hO at HKa HBX HEL
      obtain ⟨Wa, hWa⟩ : ∃ Wa, wr.alloc (.cells #[.int .i64 x.id, .slice A2 m2 c2, .int .i64 x.frm, .int .i64 x.to] 36) = Wa := ⟨_, rfl⟩
      rw [hWa] at HKa HBX HEL
      have q0 := HBX.out.c0
      have q1 := HBX.out.c1
      have q2 := HBX.out.c2
      have q3 := HBX.out.c3
      by_cases hto : x.to ≤ now
      · have d0 : decide (x.to ≤ now) = true := decide_eq_true hto
        have HS1 := Lib.hid (hno1 (decide_eq_false (by omega)))
        have HS2 := Lib.hid (hyes2 d0)
        clear hyes1 hyes2 hno1 hno2 hel hx hto hkl hba hbl
        go_wp2_with (at_builtin; refine wpList_append_OB rfl (.tmp 26) (.tmp 28) 22 rfl eh_steady HKa.out.b i0 _ 48 Try.underlying22 hi0 hz0 hz1 hz2 rfl (by decide) rfl x #[.int .i64 x.id, .slice A2 m2 c2, .int .i64 x.frm, .int .i64 x.to] rfl rfl (by intro u hu; simp at hu; rcases hu with h | h | h | h <;> subst h <;> rfl) HEL.out (by have := HLB.out; unfold maxLen; omega) (by have := HLB.out; omega) ?_; intro v' w4 hOB hKP; refine Hid.out ?_)
        refine Lib.hid ?_
        have HT2 : Hid (Two w2 _ _ v' _ w4) := Lib.hid ⟨(HKa.out.a.keeps eh_steady hOB.below hKP HKa.out.ap.comm).1, hOB, (HKa.out.a.keeps eh_steady hOB.below hKP HKa.out.ap.comm).2.comm⟩
        clear hOB hKP c0 c1' c2' c3' q0 q1 q2 q3
        go_wp2
        go_roundw
        case rel => exact ⟨k + 1, by omega, by go_num, by rw [HS1.out, HS2.out]; exact HT2.out⟩
        case measure => simp [intOf]; omega
      · have d0 : decide (x.to ≤ now) = false := decide_eq_false hto
        have HS1 := Lib.hid (hyes1 (decide_eq_true (by omega)))
        have HS2 := Lib.hid (hno2 d0)
        clear hyes1 hyes2 hno1 hno2 hel hx hto hkl hba hbl
        go_wp2_with (at_builtin; refine wpList_append_OB rfl (.tmp 30) (.tmp 32) 22 rfl eh_steady HKa.out.a i0 _ 48 Try.underlying22 hi0 hz0 hz1 hz2 rfl (by decide) rfl x #[.int .i64 x.id, .slice A2 m2 c2, .int .i64 x.frm, .int .i64 x.to] rfl rfl (by intro u hu; simp at hu; rcases hu with h | h | h | h <;> subst h <;> rfl) HEL.out (by have := HLA.out; unfold maxLen; omega) (by have := HLA.out; omega) ?_; intro v' w4 hOB hKP; refine Hid.out ?_)
        refine Lib.hid ?_
        have HT2 : Hid (Two w2 v' _ _ _ w4) := Lib.hid ⟨hOB, (HKa.out.b.keeps eh_steady hOB.below hKP HKa.out.ap).1, (HKa.out.b.keeps eh_steady hOB.below hKP HKa.out.ap).2⟩
        clear hOB hKP c0 c1' c2' c3' q0 q1 q2 q3
        go_wp2
        go_roundw
        case rel => exact ⟨k + 1, by omega, by go_num, by rw [HS1.out, HS2.out]; exact HT2.out⟩
        case measure => simp [intOf]; omega
    · have hkn : k = n := by omega
      have htk : l.take k = l := List.take_of_length_le (by rw [HL.out]; omega)
      rw [htk, HGA.out, HGB.out] at HK
      obtain ⟨A1, c1, rfl, hr1, hn1, hc1⟩ := ob_table HK.out.a
      obtain ⟨A2, c2, rfl, hr2, hn2, hc2⟩ := ob_table HK.out.b
      have HP : Hid (TTPost ga gb w (.returned (.tuple #[.slice A1 ga.length c1, .slice A2 gb.length c2])) wr) := Lib.hid ⟨⟨A1, c1, A2, c2, rfl, hr1, hr2, ⟨hn1, hc1⟩, ⟨hn2, hc2⟩⟩, HB2.out.trans (HK.out.a.below.mono HB2.out.size)⟩
      clear hr1 hr2 hn1 hn2 hc1 hc2 htk
      go_wp2
      go_ret2
      exact HP.out
theorem heldOver_any (A : Option Addr) (n c : Nat) (l : Tb) (now : Int) (w : World) (hl : TAsk w A n c l) (hf : FewT l) :
    Calls Try.prog 9 #[.slice A n c, .int .i64 now] w (TTPost (restT l now) (goneT l now) w) := by
  cases h : rightT l with
  | true => exact heldOver_yes A n c l now w hl hf h
  | false =>
    have e1 : restT l now = l := by unfold restT; rw [h]; rfl
    have e2 : goneT l now = [] := by unfold goneT; rw [h]; rfl
    rw [e1, e2]
    exact heldOver_no A n c l now w hl hf h

end Go.Proofs.Ytbiofikijehlcaa

namespace Go.Proofs.Ytbiofikijehlcaa
open Go.RowKit

theorem heldBusy_any (A : Option Addr) (n c : Nat) (l : Tb) (a b : Int) (w : World) (hl : TAsk w A n c l) (hf : FewT l) :
    Calls Try.prog 12 #[.slice A n c, .int .i64 a, .int .i64 b] w (IPost (busyT l a b) w) := by
  cases h1 : rightT l with
  | false =>
    have e : busyT l a b = [] := by unfold busyT; rw [h1]; rfl
    rw [e]
    have R1 := Lib.hid h1
    have HT := Lib.hid hl
    have HF := Lib.hid hf
    clear h1 hl hf e
    go_enter Try.func12, Try.ntmps12
    go_wp2_with fail
    refine (heldRight_b HT.out.reads HT.out.nil HF.out R1.out).mono ?_
    rintro e w1 ⟨rfl, hb⟩
    have HB := Lib.hid hb
    clear hb
    go_wp2
    go_ret
    exact ipost_nil HB.out
  | true =>
    have R1 := Lib.hid h1
    have HT := Lib.hid hl
    have HF := Lib.hid hf
    obtain ⟨r, hr'⟩ : ∃ r, busyT l a b = r := ⟨_, rfl⟩
    have HRR := Lib.hid hr'
    rw [hr']
    clear h1 hl hf hr'
    go_enter Try.func12, Try.ntmps12
    go_wp2_with fail
    refine (heldRight_b HT.out.reads HT.out.nil HF.out R1.out).mono ?_
    rintro e w1 ⟨rfl, hb⟩
    have HB := Lib.hid hb
    have HT1 := Lib.hid (HT.out.next hb)
    clear hb
    go_wp2_with fail
    refine (calls_ipost (busy_any A n c l a b w1 HT1.out.reads HF.out R1.out) HRR.out).mono ?_
    rintro e w2 ⟨⟨A2, c2, rfl, hr, hnil, hc⟩, hb⟩
    have HP : Hid (IPost r w (.returned (.slice A2 r.length c2)) w2) := Lib.hid ⟨⟨A2, c2, rfl, hr, hnil, hc⟩, HB.out.trans (hb.mono HB.out.size)⟩
    clear hr hnil hc hb
    go_wp2
    go_ret
    exact HP.out

theorem BoxH.store4 {wr : World} {g : Nat} {x : Hd} {A : Option Addr} {m c : Nat} (b : BoxH wr g x A m c) (h : Hd) (A2 : Option Addr) (m2 c2 : Nat) :
    BoxH ((((wr.setCell ⟨g, 0, none⟩ (.int .i64 h.id)).setCell ⟨g, 1, none⟩ (.slice A2 m2 c2)).setCell ⟨g, 2, none⟩ (.int .i64 h.frm)).setCell ⟨g, 3, none⟩ (.int .i64 h.to)) g h A2 m2 c2 :=
  (((b.set (h' := ⟨h.id, [], x.frm, x.to⟩) rfl).set (h' := ⟨h.id, [], x.frm, x.to⟩) rfl).set (h' := ⟨h.id, [], h.frm, x.to⟩) rfl).set (h' := h) rfl
theorem below_four {B g : Nat} {w wr : World} {v0 v1 v2 v3 : Value} (hb : Below B w wr) (hg : B ≤ g) : Below B w ((((wr.setCell ⟨g, 0, none⟩ v0).setCell ⟨g, 1, none⟩ v1).setCell ⟨g, 2, none⟩ v2).setCell ⟨g, 3, none⟩ v3) :=
  (((hb.setCell (p := ⟨g, _, none⟩) hg v0).setCell (p := ⟨g, _, none⟩) hg v1).setCell (p := ⟨g, _, none⟩) hg v2).setCell (p := ⟨g, _, none⟩) hg v3
theorem four_other {b g : Nat} {wr : World} {v0 v1 v2 v3 : Value} (h : b ≠ g) : ((((wr.setCell ⟨g, 0, none⟩ v0).setCell ⟨g, 1, none⟩ v1).setCell ⟨g, 2, none⟩ v2).setCell ⟨g, 3, none⟩ v3).heap[b]? = wr.heap[b]? := by
  rw [Below.heap_setCell _ _ _ _ h, Below.heap_setCell _ _ _ _ h, Below.heap_setCell _ _ _ _ h, Below.heap_setCell _ _ _ _ h]
theorem four_size {g : Nat} {wr : World} {v0 v1 v2 v3 : Value} : ((((wr.setCell ⟨g, 0, none⟩ v0).setCell ⟨g, 1, none⟩ v1).setCell ⟨g, 2, none⟩ v2).setCell ⟨g, 3, none⟩ v3).heap.size = wr.heap.size := by simp [World.setCell]
/-- a holding as an element, as one by value -/
theorem EH.ask {w : World} {ok : Nat → Prop} {h : Hd} {A : Option Addr} {m c : Nat} (he : EH w ok h [.int .i64 h.id, .slice A m c, .int .i64 h.frm, .int .i64 h.to]) (hok : ∀ b, ok b → b < w.heap.size) : HAsk w A m c h := by
  obtain ⟨A', m', c', hv, hr, h1, h2, h3, h4⟩ := he
  injection hv with _ hv
  injection hv with hv _
  injection hv with e1 e2 e3
  subst e1 e2 e3
  exact ⟨RN.ri (hr.keep ei_steady (fun _ _ => rfl) hok), h1, h2, h3, h4⟩
theorem hd0_ask (w : World) : HAsk w none 0 0 hd0 := ⟨RI.nil, fun _ => rfl, Nat.le_refl _, Nat.zero_le _, ⟨(by unfold I64; simp [hd0]), (by unfold I64; simp [hd0]), (by unfold I64; simp [hd0]), fun n hn => by cases hn⟩⟩

set_option maxRecDepth 100000 in
set_option maxHeartbeats 8000000 in
theorem heldGet_1 (A : Option Addr) (n c : Nat) (l : Tb) (id : Int) (w : World) (hl : TAsk w A n c l) (hf : FewT l) (h1 : rightT l = false) :
    Calls Try.prog 22 #[.slice A n c, .int .i64 id] w (GPost hd0 false w) := by
  obtain ⟨W, hW⟩ : ∃ W, W = w.alloc (hO hd0 none 0 0) := ⟨_, rfl⟩
  have BR : Hid (BoxH W w.heap.size hd0 none 0 0) := Lib.hid (by rw [hW]; exact boxH_new w hd0 none 0 0)
  have hb0 : Below w.heap.size w W := by rw [hW]; exact (Below.refl _ _).alloc (Nat.le_refl _) _
  have HB := Lib.hid hb0
  have HT := Lib.hid (hl.next hb0)
  have HF := Lib.hid hf
  have HLN := Lib.hid hl.reads.len
  have hn100 : n ≤ 100 := by rw [← hl.reads.len]; exact hf.1
  have R1 := Lib.hid h1
  clear h1
  unfold hO at hW
  simp only [hd0] at hW
  clear hb0 hl hf
  go_enter Try.func22, Try.ntmps22
  go_wp2_with fail
  rw [← hW]
  refine (heldRight_b HT.out.reads HT.out.nil HF.out R1.out).mono ?_
  rintro e w1 ⟨rfl, hb⟩
  have HBq := Lib.hid (HB.out.trans (hb.mono HB.out.size))
  clear HB
  have HB := HBq
  clear HBq
  have HTq := Lib.hid (HT.out.next hb)
  clear HT
  have HT := HTq
  clear HTq
  have BRq := Lib.hid (BR.out.next hb)
  clear BR
  have BR := BRq
  clear BRq
  clear hb
  clear hW
  have p0 := BR.out.c0
  have y0 := BR.out.frozen 0
  have p1 := BR.out.c1
  have y1 := BR.out.frozen 1
  have p2 := BR.out.c2
  have y2 := BR.out.frozen 2
  have p3 := BR.out.c3
  have y3 := BR.out.frozen 3
  go_wp2
  have b1 := BR.out.store4 hd0 none 0 0
  have r0 := b1.c0
  have r1 := b1.c1
  have r2 := b1.c2
  have r3 := b1.c3
  simp only [hd0] at r0 r1 r2 r3
  refine bodyPost_ret (v := .tuple #[.agg #[.int .i64 hd0.id, .slice none 0 0, .int .i64 hd0.frm, .int .i64 hd0.to], .bool false]) (by simp [results, Try.results22, go_sem, hd0, r0, r1, r2, r3]) rfl ⟨⟨none, 0, 0, rfl, hd0_ask _⟩, below_four HB.out (Nat.le_refl _)⟩

set_option maxRecDepth 100000 in
set_option maxHeartbeats 8000000 in
theorem heldGet_2 (A : Option Addr) (n c : Nat) (l : Tb) (id : Int) (w : World) (hl : TAsk w A n c l) (hf : FewT l) (h1 : rightT l = true) (h2 : hasT l id = false) :
    Calls Try.prog 22 #[.slice A n c, .int .i64 id] w (GPost hd0 false w) := by
  obtain ⟨W, hW⟩ : ∃ W, W = w.alloc (hO hd0 none 0 0) := ⟨_, rfl⟩
  have BR : Hid (BoxH W w.heap.size hd0 none 0 0) := Lib.hid (by rw [hW]; exact boxH_new w hd0 none 0 0)
  have hb0 : Below w.heap.size w W := by rw [hW]; exact (Below.refl _ _).alloc (Nat.le_refl _) _
  have HB := Lib.hid hb0
  have HT := Lib.hid (hl.next hb0)
  have HF := Lib.hid hf
  have HLN := Lib.hid hl.reads.len
  have hn100 : n ≤ 100 := by rw [← hl.reads.len]; exact hf.1
  have R1 := Lib.hid h1
  have HHAS := Lib.hid h2
  have HIDS := Lib.hid (rightT_is.1 h1).ids
  clear h1 h2
  unfold hO at hW
  simp only [hd0] at hW
  clear hb0 hl hf
  go_enter Try.func22, Try.ntmps22
  go_wp2_with fail
  rw [← hW]
  refine (heldRight_b HT.out.reads HT.out.nil HF.out R1.out).mono ?_
  rintro e w1 ⟨rfl, hb⟩
  have HBq := Lib.hid (HB.out.trans (hb.mono HB.out.size))
  clear HB
  have HB := HBq
  clear HBq
  have HTq := Lib.hid (HT.out.next hb)
  clear HT
  have HT := HTq
  clear HTq
  have BRq := Lib.hid (BR.out.next hb)
  clear BR
  have BR := BRq
  clear BRq
  clear hb
  clear hW
  go_wp2_with fail
  refine (find_any A n c l id _ HT.out.reads (by omega) HIDS.out).mono ?_
  rintro e w2 ⟨⟨K, rfl, hK⟩, hb⟩
  have HK := Lib.hid hK
  have HHE : Hid (hereB l id K = false) := Lib.hid (by rw [here_has HIDS.out hK]; exact HHAS.out)
  rw [HHE.out]
  clear hK
  have HBq := Lib.hid (HB.out.trans (hb.mono HB.out.size))
  clear HB
  have HB := HBq
  clear HBq
  have HTq := Lib.hid (HT.out.next hb)
  clear HT
  have HT := HTq
  clear HTq
  have BRq := Lib.hid (BR.out.next hb)
  clear BR
  have BR := BRq
  clear BRq
  clear hb
  have p0 := BR.out.c0
  have y0 := BR.out.frozen 0
  have p1 := BR.out.c1
  have y1 := BR.out.frozen 1
  have p2 := BR.out.c2
  have y2 := BR.out.frozen 2
  have p3 := BR.out.c3
  have y3 := BR.out.frozen 3
  go_wp2
  have b1 := BR.out.store4 hd0 none 0 0
  have r0 := b1.c0
  have r1 := b1.c1
  have r2 := b1.c2
  have r3 := b1.c3
  simp only [hd0] at r0 r1 r2 r3
  refine bodyPost_ret (v := .tuple #[.agg #[.int .i64 hd0.id, .slice none 0 0, .int .i64 hd0.frm, .int .i64 hd0.to], .bool false]) (by simp [results, Try.results22, go_sem, hd0, r0, r1, r2, r3]) rfl ⟨⟨none, 0, 0, rfl, hd0_ask _⟩, below_four HB.out (Nat.le_refl _)⟩

set_option maxRecDepth 100000 in
set_option maxHeartbeats 8000000 in
theorem heldGet_3 (A : Option Addr) (n c : Nat) (l : Tb) (id : Int) (w : World) (hl : TAsk w A n c l) (hf : FewT l) (h1 : rightT l = true) (h2 : hasT l id = true) :
    Calls Try.prog 22 #[.slice A n c, .int .i64 id] w (GPost (getT l id) true w) := by
  obtain ⟨W, hW⟩ : ∃ W, W = w.alloc (hO hd0 none 0 0) := ⟨_, rfl⟩
  have BR : Hid (BoxH W w.heap.size hd0 none 0 0) := Lib.hid (by rw [hW]; exact boxH_new w hd0 none 0 0)
  have hb0 : Below w.heap.size w W := by rw [hW]; exact (Below.refl _ _).alloc (Nat.le_refl _) _
  have HB := Lib.hid hb0
  have HT := Lib.hid (hl.next hb0)
  have HF := Lib.hid hf
  have HLN := Lib.hid hl.reads.len
  have hn100 : n ≤ 100 := by rw [← hl.reads.len]; exact hf.1
  have R1 := Lib.hid h1
  have HHAS := Lib.hid h2
  have HIDS := Lib.hid (rightT_is.1 h1).ids
  obtain ⟨gx, hgx⟩ : ∃ gx, getT l id = gx := ⟨_, rfl⟩
  have HGX := Lib.hid hgx
  rw [hgx]
  clear h1 h2 hgx
  unfold hO at hW
  simp only [hd0] at hW
  clear hb0 hl hf
  go_enter Try.func22, Try.ntmps22
  go_wp2_with fail
  rw [← hW]
  refine (heldRight_b HT.out.reads HT.out.nil HF.out R1.out).mono ?_
  rintro e w1 ⟨rfl, hb⟩
  have HBq := Lib.hid (HB.out.trans (hb.mono HB.out.size))
  clear HB
  have HB := HBq
  clear HBq
  have HTq := Lib.hid (HT.out.next hb)
  clear HT
  have HT := HTq
  clear HTq
  have BRq := Lib.hid (BR.out.next hb)
  clear BR
  have BR := BRq
  clear BRq
  clear hb
  clear hW
  go_wp2_with fail
  refine (find_any A n c l id _ HT.out.reads (by omega) HIDS.out).mono ?_
  rintro e w2 ⟨⟨K, rfl, hK⟩, hb⟩
  have HK := Lib.hid hK
  have HHE : Hid (hereB l id K = true) := Lib.hid (by rw [here_has HIDS.out hK]; exact HHAS.out)
  rw [HHE.out]
  clear hK
  have HBq := Lib.hid (HB.out.trans (hb.mono HB.out.size))
  clear HB
  have HB := HBq
  clear HBq
  have HTq := Lib.hid (HT.out.next hb)
  clear HT
  have HT := HTq
  clear HTq
  have BRq := Lib.hid (BR.out.next hb)
  clear BR
  have BR := BRq
  clear BRq
  clear hb
  have hKl := (here_facts HHE.out).1
  have hga := get_at R1.out HHE.out
  rw [HGX.out] at hga
  have hKn : K < n := by rw [← HLN.out]; exact hKl
  have hmx := HF.out.at hKl
  obtain ⟨b, off, A2, m2, c2, rfl, hbl, c0, c1, c2', c3, hx⟩ := HT.out.reads.one hKn
  obtain ⟨x, hxx⟩ : ∃ x, l.getD K hd0 = x := ⟨_, rfl⟩
  rw [hxx] at c0 c2' c3 hx hmx hga
  have hga2 := hga.symm
  subst hga2
  have HX := Lib.hid hx
  have hm2 : m2 ≤ 1000 := by have := hx.reads.1; omega
  clear hx hxx hmx hKl hga
  go_wp2_with fail
  refine (own_any A2 m2 c2 x _ HX.out hm2).mono ?_
  rintro e w3 ⟨⟨A5, c5, rfl, hx5, he5⟩, hb⟩
  have hlt5 := BR.out.lt
  have HE5 := Lib.hid he5
  have HLT := Lib.hid hlt5
  clear hx5 he5 hlt5
  have HBq := Lib.hid (HB.out.trans (hb.mono HB.out.size))
  clear HB
  have HB := HBq
  clear HBq
  have HTq := Lib.hid (HT.out.next hb)
  clear HT
  have HT := HTq
  clear HTq
  have BRq := Lib.hid (BR.out.next hb)
  clear BR
  have BR := BRq
  clear BRq
  clear hb
  clear c0 c1 c2' c3
  have p0 := BR.out.c0
  have y0 := BR.out.frozen 0
  have p1 := BR.out.c1
  have y1 := BR.out.frozen 1
  have p2 := BR.out.c2
  have y2 := BR.out.frozen 2
  have p3 := BR.out.c3
  have y3 := BR.out.frozen 3
  go_wp2
  have b1 := BR.out.store4 x A5 m2 c5
  have r0 := b1.c0
  have r1 := b1.c1
  have r2 := b1.c2
  have r3 := b1.c3
  refine bodyPost_ret (v := .tuple #[.agg #[.int .i64 x.id, .slice A5 m2 c5, .int .i64 x.frm, .int .i64 x.to], .bool true]) (by simp [results, Try.results22, go_sem, r0, r1, r2, r3]) rfl ⟨⟨A5, m2, c5, rfl, ?_⟩, below_four HB.out (Nat.le_refl _)⟩
  exact EH.ask (eh_steady.keep HE5.out (fun b hb => four_other (by have := HLT.out; omega)) (ok' := fun b => b < _) (fun b hb => by rw [four_size]; exact hb.2)) (fun _ h => h)

theorem heldGet_any (A : Option Addr) (n c : Nat) (l : Tb) (id : Int) (w : World) (hl : TAsk w A n c l) (hf : FewT l) : Calls Try.prog 22 #[.slice A n c, .int .i64 id] w (GPost (getT l id) (gotT l id) w) := by
  cases h1 : rightT l with
  | false =>
    have e : gotT l id = false := by unfold gotT; rw [h1]; rfl
    rw [get_none e, e]
    exact heldGet_1 A n c l id w hl hf h1
  | true =>
    have e : gotT l id = hasT l id := by unfold gotT; rw [h1]; rfl
    rw [e]
    cases h2 : hasT l id with
    | false =>
      rw [get_none (e.trans h2)]
      exact heldGet_2 A n c l id w hl hf h1 h2
    | true => exact heldGet_3 A n c l id w hl hf h1 h2

end Go.Proofs.Ytbiofikijehlcaa

namespace Go.Proofs.Ytbiofikijehlcaa
open Go.RowKit

set_option maxRecDepth 100000 in
set_option maxHeartbeats 8000000 in
theorem heldEnds_yes (A : Option Addr) (n c : Nat) (l : Tb) (z : Int) (w : World) (hl : TAsk w A n c l) (hf : FewT l) (hrt : rightT l = true) :
    Calls Try.prog 16 #[.slice A n c, .int .i64 z] w (IPost (endsT l z) w) := by
  obtain ⟨i0, hi0, hz0, hz1, hz2⟩ := info_parts int64_info
  have HT := Lib.hid hl
  have HF := Lib.hid hf
  have R1 := Lib.hid hrt
  have HL := Lib.hid hl.reads.len
  have hn100 : n ≤ 100 := by rw [← hl.reads.len]; exact hf.1
  obtain ⟨L, hLL⟩ : ∃ L, (l.map Hd.to).filter (fun t => decide (z < t)) = L := ⟨_, rfl⟩
  have HLL := Lib.hid hLL
  have HE : Hid (endsT l z = L.foldr insZ []) := Lib.hid (by unfold endsT; rw [if_pos hrt, hLL])
  rw [HE.out]
  clear hl hf hrt hLL
  go_enter Try.func16, Try.ntmps16
  go_wp2_with fail
  refine (heldRight_b HT.out.reads HT.out.nil HF.out R1.out).mono ?_
  rintro e w1 ⟨rfl, hb1⟩
  have HB1 := Lib.hid hb1
  have HT1 := Lib.hid (HT.out.next hb1)
  clear hb1
  go_wp2
  go_loopw [5, 13] (fun v i wr => ∃ k : Nat, k ≤ n ∧ i = .int .i64 k ∧ ON EI 1 2 w1 v (((l.take k).map Hd.to).filter (fun t => decide (z < t))) wr) (fun _ i _ => n - (intOf i).toNat)
  case atStart => exact ⟨0, Nat.zero_le _, rfl, ON.nil _⟩
  case round =>
    obtain ⟨k, hk, rfl, hrel⟩ := hrel
    have HK := Lib.hid hrel
    clear hrel
    by_cases hlt : k < n
    · have hkl : k < l.length := by rw [HL.out]; exact hlt
      have HLA : Hid ((((l.take k).map Hd.to).filter (fun t => decide (z < t))).length ≤ 1000) := Lib.hid (by have := List.length_filter_le (fun t : Int => decide (z < t)) ((l.take k).map Hd.to); rw [List.length_map, List.length_take] at this; omega)
      obtain ⟨b, off, A2, m2, c2, rfl, hbl, c0, c1', c2', c3', hx⟩ := RT.one (HT1.out.reads.next HK.out.below) hlt
      have hyes := ends_take_yes (z := z) hkl
      have hno := ends_take_no (z := z) hkl
      obtain ⟨x, hxx⟩ : ∃ x, l.getD k hd0 = x := ⟨_, rfl⟩
      rw [hxx] at c0 c2' c3' hyes hno
      have hba : Below wr.heap.size wr (wr.alloc (hO x A2 m2 c2)) := (Below.refl _ _).alloc (Nat.le_refl _) _
      have HKa := Lib.hid (HK.out.next ei_steady hba)
      have HBX : Hid (BoxH (wr.alloc (hO x A2 m2 c2)) wr.heap.size x A2 m2 c2) := Lib.hid (boxH_new wr x A2 m2 c2)
      unfold hO at HKa HBX
      obtain ⟨Wa, hWa⟩ : ∃ Wa, wr.alloc (.cells #[.int .i64 x.id, .slice A2 m2 c2, .int .i64 x.frm, .int .i64 x.to] 36) = Wa := ⟨_, rfl⟩
      rw [hWa] at HKa HBX
      have q3 := HBX.out.c3
      by_cases hto : z < x.to
      · have d0 : decide (z < x.to) = true := decide_eq_true hto
        have HS := Lib.hid (hyes hto)
        clear hyes hno hx hxx hto hkl hba hbl
        go_wp2_with (at_builtin; refine append_EI rfl (.tmp 21) (.tmp 24) 32 2 rfl HKa.out i0 Try.underlying32 hi0 hz0 hz1 hz2 rfl _ rfl HLA.out ?_; intro v' w4 hON4; refine Hid.out ?_)
        refine Lib.hid ?_
        have HO4 := Lib.hid hON4
        clear hON4 c0 c1' c2' c3' q3
        go_wp2
        go_roundw
        case rel => exact ⟨k + 1, by omega, by go_num, by rw [HS.out]; exact HO4.out⟩
        case measure => simp [intOf]; omega
      · have d0 : decide (z < x.to) = false := decide_eq_false hto
        have HS := Lib.hid (hno hto)
        clear hyes hno hx hxx hto hkl hba hbl
        go_wp2_with (simp only [hWa])
        go_roundw
        case rel => exact ⟨k + 1, by omega, by go_num, by rw [HS.out]; exact HKa.out⟩
        case measure => simp [intOf]; omega
    · have hkn : k = n := by omega
      have htk : l.take k = l := List.take_of_length_le (by rw [HL.out]; omega)
      rw [htk, HLL.out] at HK
      obtain ⟨A1, c1, rfl, hnil1, hc1⟩ := HK.out.form
      have hLn : L.length ≤ 1000 := by
        rw [← HLL.out]
        have := List.length_filter_le (fun t : Int => decide (z < t)) (l.map Hd.to)
        rw [List.length_map, HL.out] at this
        omega
      have HC1 := Lib.hid hc1
      have HN1 := Lib.hid hnil1
      have HLn := Lib.hid hLn
      obtain ⟨len, hlen⟩ : ∃ len, L.length = len := ⟨_, rfl⟩
      have HLEN := Lib.hid hlen
      rw [hlen] at HK HC1 HLn ⊢
      clear htk hnil1 hc1 hLn hlen
      go_wp2_with fail
      refine (sortTimes_any A1 len c1 L w1 wr HK.out HLEN.out HLn.out).mono ?_
      rintro e w5 ⟨rfl, hb5, hs⟩
      have HB5 := Lib.hid hb5
      rcases hs with h0 | ⟨g, rfl, hgb, hgl, hH⟩
      · subst h0
        have HE0 : Hid (L.foldr insZ [] = []) := Lib.hid (by
          have : L = [] := List.eq_nil_of_length_eq_zero HLEN.out
          rw [this]
          rfl)
        clear hb5
        go_wp2_with fail
        refine (compact_short A1 0 c1 w5 (by omega)).mono ?_
        rintro e w6 ⟨rfl, rfl⟩
        have HP : Hid (IPost (L.foldr insZ []) w (.returned (.slice A1 0 c1)) w6) := Lib.hid (by
          rw [HE0.out]
          exact ipost_mk RI.nil HN1.out HC1.out (HB1.out.trans (HB5.out.mono HB1.out.size)))
        go_wp2
        go_ret
        exact HP.out
      · have HS5 := Lib.hid (compactTimes_any g len c1 (L.mergeSort fun x y => decide (x ≤ y)) w1 w5 hb5 hgb hgl hH (by rw [List.length_mergeSort, HLEN.out]) HLn.out HC1.out)
        rw [compact_sort] at HS5
        clear hb5 hgb hgl hH
        go_wp2_with fail
        refine HS5.out.mono ?_
        rintro e w6 ⟨⟨A6, c6, rfl, hr6, hn6, hc6⟩, hb6⟩
        have HP : Hid (IPost (L.foldr insZ []) w (.returned (.slice A6 (L.foldr insZ []).length c6)) w6) := Lib.hid ⟨⟨A6, c6, rfl, hr6, hn6, hc6⟩, HB1.out.trans (hb6.mono HB1.out.size)⟩
        obtain ⟨r, hr⟩ : ∃ r, (L.foldr insZ []).length = r := ⟨_, rfl⟩
        rw [hr] at HP ⊢
        clear hr6 hn6 hc6 hb6 hr
        go_wp2
        go_ret
        exact HP.out
theorem heldEnds_any (A : Option Addr) (n c : Nat) (l : Tb) (z : Int) (w : World) (hl : TAsk w A n c l) (hf : FewT l) :
    Calls Try.prog 16 #[.slice A n c, .int .i64 z] w (IPost (endsT l z) w) := by
  cases h1 : rightT l with
  | true => exact heldEnds_yes A n c l z w hl hf h1
  | false =>
    have e : endsT l z = [] := by unfold endsT; rw [h1, if_neg (by simp)]
    rw [e]
    have R1 := Lib.hid h1
    have HT := Lib.hid hl
    have HF := Lib.hid hf
    clear h1 hl hf e
    go_enter Try.func16, Try.ntmps16
    go_wp2_with fail
    refine (heldRight_b HT.out.reads HT.out.nil HF.out R1.out).mono ?_
    rintro e w1 ⟨rfl, hb⟩
    have HB := Lib.hid hb
    clear hb
    go_wp2
    go_ret
    exact ipost_nil HB.out

end Go.Proofs.Ytbiofikijehlcaa

namespace Go.Proofs.Ytbiofikijehlcaa
open Go.RowKit

section
variable {α : Type} {E : Elem α} {t : TypeId} {ok ok' : Nat → Prop} {B g n cap : Nat} {v : Value} {xs : List α} {wr : World}
theorem RowQ.mono {C : Nat} (hE : Steady E) (h : RowQ E C t ok B v xs wr) (ho : ∀ b, ok b → ok' b) : RowQ E C t ok' B v xs wr := by
  obtain ⟨fl, h1, h2⟩ := h
  exact ⟨fl, h1, fun j x hx => hE.keep (h2 j x hx) (fun _ _ => rfl) ho⟩
theorem RowQ.set4 (hE : Steady E) (h : RowQ E 4 t ok B (.slice (some ⟨g, 0, none⟩) n cap) xs wr) (hok : ∀ b, ok b → b ≠ g) {i : Nat} (hi : i < xs.length) {x : α} {v0 v1 v2 v3 : Value} (hx : E wr ok x [v0, v1, v2, v3]) :
    RowQ E 4 t ok B (.slice (some ⟨g, 0, none⟩) n cap) (xs.set i x) ((((wr.setCell ⟨g, i * 4, none⟩ v0).setCell ⟨g, i * 4 + 1, none⟩ v1).setCell ⟨g, i * 4 + 2, none⟩ v2).setCell ⟨g, i * 4 + 3, none⟩ v3) := by
  obtain ⟨fl, h1, h3⟩ := h
  have hn : n = xs.length := by
    rcases h1.2 with ⟨e, _⟩ | ⟨g', cap', cur, e, _⟩
    · cases e
    · injection e
  subst hn
  have hfl := h1.1
  have s0 := (h1.stored (i * 4) v0).1
  have s1 := (s0.stored (i * 4 + 1) v1).1
  have s2 := (s1.stored (i * 4 + 2) v2).1
  have s3 := (s2.stored (i * 4 + 3) v3).1
  have hk : ∀ b, b ≠ g → ((((wr.setCell ⟨g, i * 4, none⟩ v0).setCell ⟨g, i * 4 + 1, none⟩ v1).setCell ⟨g, i * 4 + 2, none⟩ v2).setCell ⟨g, i * 4 + 3, none⟩ v3).heap[b]? = wr.heap[b]? := fun b hb => by
    rw [Below.heap_setCell _ _ _ _ hb, Below.heap_setCell _ _ _ _ hb, Below.heap_setCell _ _ _ _ hb, Below.heap_setCell _ _ _ _ hb]
  refine ⟨_, by rw [List.length_set]; exact s3, fun j y hy => ?_⟩
  have hj : j < xs.length := by have := (List.getElem?_eq_some_iff.1 hy).1; rwa [List.length_set] at this
  by_cases hji : j = i
  · subst hji
    rw [List.getElem?_set_self hj] at hy
    have hy' : x = y := by simpa using hy
    subst hy'
    have e : ((((((fl.set (j * 4) v0).set (j * 4 + 1) v1).set (j * 4 + 2) v2).set (j * 4 + 3) v3).drop (j * 4)).take 4) = [v0, v1, v2, v3] := by
      apply List.ext_getElem?
      intro k
      match k with
      | 0 => simp [List.getElem?_drop, List.getElem?_set]; omega
      | 1 => simp [List.getElem?_drop, List.getElem?_set]; omega
      | 2 => simp [List.getElem?_drop, List.getElem?_set]; omega
      | 3 => simp [List.getElem?_drop, List.getElem?_set]; omega
      | k + 4 => simp [List.getElem?_take]; omega
    rw [e]
    exact hE.keep hx (fun b hb => hk b (hok b hb)) (fun _ h => h)
  · rw [List.getElem?_set_ne (fun e => hji e.symm)] at hy
    have e : ((((((fl.set (i * 4) v0).set (i * 4 + 1) v1).set (i * 4 + 2) v2).set (i * 4 + 3) v3).drop (j * 4)).take 4) = (fl.drop (j * 4)).take 4 := by
      apply List.ext_getElem?
      intro k
      rw [List.getElem?_take, List.getElem?_take]
      split
      · rw [List.getElem?_drop, List.getElem?_drop, List.getElem?_set_ne (by omega), List.getElem?_set_ne (by omega), List.getElem?_set_ne (by omega), List.getElem?_set_ne (by omega)]
      · rfl
    rw [e]
    exact hE.keep (h3 j y hy) (fun b hb => hk b (hok b hb)) (fun _ h => h)
end
theorem below_any4 {B g j : Nat} {w wr : World} {v0 v1 v2 v3 : Value} (hb : Below B w wr) (hg : B ≤ g) : Below B w ((((wr.setCell ⟨g, j, none⟩ v0).setCell ⟨g, j + 1, none⟩ v1).setCell ⟨g, j + 2, none⟩ v2).setCell ⟨g, j + 3, none⟩ v3) :=
  (((hb.setCell (p := ⟨g, _, none⟩) hg v0).setCell (p := ⟨g, _, none⟩) hg v1).setCell (p := ⟨g, _, none⟩) hg v2).setCell (p := ⟨g, _, none⟩) hg v3
/-- what may be reached: what lies below B, or was made behind w; not the row itself -/
def OkZ (B : Nat) (w wr : World) (v : Value) : Nat → Prop := fun b => (b < B ∨ w.heap.size ≤ b ∧ b < wr.heap.size) ∧ v.ownBlock ≠ some b
structure RowZ (B : Nat) (w : World) (v : Value) (l : Tb) (wr : World) : Prop where
  le : B ≤ w.heap.size
  bel : Below w.heap.size w wr
  row : RowQ EH 4 36 (OkZ B w wr v) w.heap.size v l wr
section
variable {B : Nat} {w wr w1 : World} {v : Value} {l : Tb}
theorem okz_lt (hle : B ≤ w.heap.size) (hb : Below w.heap.size w wr) {b : Nat} (h : OkZ B w wr v b) : b < wr.heap.size := by
  rcases h.1 with h1 | h1
  · exact Nat.lt_of_lt_of_le h1 (Nat.le_trans hle hb.size)
  · exact h1.2
theorem RowZ.on (h : RowZ B w v l wr) : ONH w v l wr := h.row.on eh_steady h.bel (fun _ hb => ⟨okz_lt h.le h.bel hb, hb.2⟩)
theorem RowZ.next (h : RowZ B w v l wr) (hb : Below wr.heap.size wr w1) : RowZ B w v l w1 :=
  ⟨h.le, h.bel.trans (hb.mono h.bel.size), (h.row.keep eh_steady (fun b hb' => hb.block b (by
    rcases hb' with hb' | hb'
    · exact okz_lt h.le h.bel hb'
    · exact (h.row.own b hb').2))).mono eh_steady (fun b hb' => ⟨hb'.1.imp id (fun h1 => ⟨h1.1, Nat.lt_of_lt_of_le h1.2 hb.size⟩), hb'.2⟩)⟩
end

set_option maxRecDepth 100000 in
set_option maxHeartbeats 8000000 in
theorem sameZ_any (B : Nat) (A : Option Addr) (n c : Nat) (l : Tb) (w : World) (hle : B ≤ w.heap.size) (hr : RT w B A n l) (hnil : A = none → c = 0) (hf : FewT l) :
    Calls Try.prog 28 #[.slice A n c] w fun e w' => ∃ v, e = .returned v ∧ RowZ B w v l w' := by
  have HL := Lib.hid hr.len
  have HF := Lib.hid hf
  have HLE := Lib.hid hle
  have hn : n ≤ 100 := by rw [← hr.len]; exact hf.1
  have HC := Lib.hid (cloneQ_any B A n c l w hle hr hnil (by omega))
  clear hr hnil hf hle
  go_enter Try.func28, Try.ntmps28
  go_wp2_with fail
  refine HC.out.mono ?_
  rintro e w1 ⟨v, rfl, hb1, hq⟩
  obtain ⟨A1, c1, rfl, _, _⟩ := hq.form
  have HO : Hid (RowZ B w (.slice A1 l.length c1) l w1) := Lib.hid ⟨HLE.out, hb1, hq.mono eh_steady (fun b hb => ⟨.inl hb, fun e => by
    have h1 := (hq.own b e).1
    have h2 := HLE.out
    have h3 : b < B := hb
    omega⟩)⟩
  rw [HL.out] at HO ⊢
  clear hq hb1
  go_wp2
  go_loopw [10] (fun i wr => ∃ k : Nat, k ≤ n ∧ i = .int .i64 k ∧ RowZ B w (.slice A1 n c1) l wr) (fun i _ => n - (intOf i).toNat)
  case atStart => exact ⟨0, Nat.zero_le _, rfl, HO.out⟩
  case round =>
    obtain ⟨k, hk, rfl, hrel⟩ := hrel
    have HK := Lib.hid hrel
    clear hrel
    by_cases hlt : k < n
    · have hkl : k < l.length := by rw [HL.out]; exact hlt
      have hon := HK.out.on
      obtain ⟨b, off, A2, m2, c2, e, hbl, c0, c1', c2', c3', hx⟩ := RT.one (ON.reads eh_steady (by omega) hon rfl) hlt
      obtain ⟨g, hg, hgb, hgl⟩ := ON.head hon (by omega)
      have hmx := HF.out.at hkl
      have hset := set_getD hkl
      rw [hg] at e
      injection e with e
      injection e with e1 e2
      subst e1 e2 hg
      obtain ⟨x, hxx⟩ : ∃ x, l.getD k hd0 = x := ⟨_, rfl⟩
      rw [hxx] at c0 c2' c3' hx hmx hset
      have HS := Lib.hid hset
      have hm2 : m2 ≤ 1000 := by have := hx.reads.1; omega
      have hba : Below wr.heap.size wr (wr.alloc (hO x A2 m2 c2)) := (Below.refl _ _).alloc (Nat.le_refl _) _
      have HX := Lib.hid (hx.next hba)
      have HK1 := Lib.hid (HK.out.next hba)
      have HBX : Hid (BoxH (wr.alloc (hO x A2 m2 c2)) wr.heap.size x A2 m2 c2) := Lib.hid (boxH_new wr x A2 m2 c2)
      have HGL : Hid (g < (wr.alloc (hO x A2 m2 c2)).heap.size) := Lib.hid (by simp; omega)
      unfold hO at HX HK1 HBX HGL
      have q0 := HBX.out.c0
      have q1 := HBX.out.c1
      have q2 := HBX.out.c2
      have q3 := HBX.out.c3
      simp only [Nat.zero_add] at c0 c1' c2' c3'
      clear hba hx hxx hmx hset hbl hgb hgl hkl hon
      go_wp2_with fail
      refine (own_any A2 m2 c2 x _ HX.out hm2).mono ?_
      rintro e w5 ⟨⟨A5, c5, rfl, hx5, he5⟩, hb5⟩
      have HK5 := Lib.hid (HK1.out.next hb5)
      have HE5 : Hid (EH w5 (OkZ B w w5 (.slice (some ⟨g, 0, none⟩) n c1)) x _) := Lib.hid (eh_steady.keep he5 (fun _ _ => rfl) (fun b hb => ⟨.inr ⟨Nat.le_trans HK1.out.bel.size hb.1, hb.2⟩, fun e => by
        have h1 := hb.1
        have h2 := HGL.out
        have e' : g = b := by simpa [Value.ownBlock] using e
        omega⟩))
      clear hx5 he5 hb5 q0 q1 q2 q3
      have HK6 : Hid (RowZ B w (.slice (some ⟨g, 0, none⟩) n c1) (l.set k x) _) := Lib.hid ⟨HK5.out.le, below_any4 HK5.out.bel (HK5.out.row.own g rfl).1, (HK5.out.row.set4 eh_steady (fun b hb e => hb.2 (by rw [e]; rfl)) (i := k) (by rw [HL.out]; exact hlt) HE5.out).mono eh_steady (fun b hb => ⟨hb.1.imp id (fun h1 => ⟨h1.1, by simpa [World.setCell] using h1.2⟩), hb.2⟩)⟩
      rw [HS.out] at HK6
      obtain ⟨⟨u0, q0⟩, z0⟩ := ON.block HK5.out.on (i := k * 4) (by omega)
      obtain ⟨⟨u1, q1⟩, z1⟩ := ON.block HK5.out.on (i := k * 4 + 1) (by omega)
      obtain ⟨⟨u2, q2⟩, z2⟩ := ON.block HK5.out.on (i := k * 4 + 2) (by omega)
      obtain ⟨⟨u3, q3⟩, z3⟩ := ON.block HK5.out.on (i := k * 4 + 3) (by omega)
      go_wp2
      go_roundw
      case rel => exact ⟨k + 1, by omega, by go_num, HK6.out⟩
      case measure => simp [intOf]; omega
    · have hkn : k = n := by omega
      go_wp2
      go_ret
      exact ⟨_, rfl, HK.out⟩
/-- a holding less in a table of one's own -/
theorem deleteZ_on {B : Nat} {W wr : World} {A : Option Addr} {n c K : Nat} {l : Tb} (hO : RowZ B W (.slice A n c) l wr) (hln : l.length = n) (hK : K < n) :
    Calls Try.prog 43 #[.slice A n c, .int .i64 K, .int .i64 ((K : Int) + 1)] wr fun e w' => ∃ v', e = .returned v' ∧ RowZ B W v' (l.take K ++ l.drop (K + 1)) w' := by
  obtain ⟨g, rfl, _, _⟩ := ON.head hO.on (show 0 < n by omega)
  obtain ⟨fl, f1, f3⟩ := id hO.row
  have hfl := f1.1
  rw [hln] at f1
  have h := deleteH_any W.heap.size K (K + 1) n g c fl wr rfl hK f1 (flat_one hfl f3)
  rw [show ((K + 1 : Nat) : Int) = (K : Int) + 1 by omega] at h
  refine h.mono ?_
  rintro e w7 ⟨v', rfl, h1, h2, h3⟩
  have hl2 : (l.take K ++ l.drop (K + 1)).length = K + (n - (K + 1)) := by rw [List.length_append, List.length_take, List.length_drop, hln]; omega
  refine ⟨v', rfl, hO.le, hO.bel.trans h2, _, by rw [hl2]; exact h1, fun j x hx => eh_steady.keep (del_cells hfl (by omega) f3 j x hx) (fun b hb => h3.block b (okz_lt hO.le hO.bel hb) hb.2) (fun b hb => ⟨hb.1.imp id (fun h' => ⟨h'.1, Nat.lt_of_lt_of_le h'.2 h3.size⟩), fun e => ?_⟩)⟩
  rcases h3.own with h' | h'
  · exact hb.2 (h'.symm.trans e)
  · have := h' b e
    have := okz_lt hO.le hO.bel hb
    omega
/-- stores into a cell that is left out -/
theorem RowZ.out4 {B x : Nat} {w wr : World} {v v0 v1 v2 v3 : Value} {l : Tb} (h : RowZ B w v l wr) (h1 : B ≤ x) (h2 : x < w.heap.size) :
    RowQ EH 4 36 (OkZ B w wr v) w.heap.size v l ((((wr.setCell ⟨x, 0, none⟩ v0).setCell ⟨x, 1, none⟩ v1).setCell ⟨x, 2, none⟩ v2).setCell ⟨x, 3, none⟩ v3) :=
  h.row.keep eh_steady (fun b hb => four_other (by
    rcases hb with hb | hb
    · rcases hb.1 with h' | h' <;> omega
    · have := (h.row.own b hb).1
      omega))

end Go.Proofs.Ytbiofikijehlcaa

namespace Go.Proofs.Ytbiofikijehlcaa
open Go.RowKit

theorem RowQ.rt {ok : Nat → Prop} {B n c : Nat} {A : Option Addr} {l : Tb} {wr : World} (h : RowQ EH 4 36 ok B (.slice A n c) l wr) (hln : l.length = n) (hok : ∀ b, ok b → b < wr.heap.size) : RT wr wr.heap.size A n l := by
  refine ⟨hln, fun hn => ?_⟩
  obtain ⟨fl, h1, h2⟩ := h
  rcases id h1.2 with ⟨e, h0⟩ | ⟨g, cap, cur, e, _⟩
  · omega
  · injection e with e1 e2 e3
    subst e1 e3
    have hg := h1.lt g rfl
    rw [hln] at h1
    refine ⟨g, 0, rfl, hg.2, fun j x hx => ⟨_, ?_, fun i v hv => ?_, eh_steady.keep (h2 j x hx) (fun _ _ => rfl) hok⟩⟩
    · have hj := (List.getElem?_eq_some_iff.1 hx).1
      rw [List.length_take, List.length_drop, h1.1]
      omega
    · have hj := (List.getElem?_eq_some_iff.1 hx).1
      have hi : i < 4 := by
        have := (List.getElem?_eq_some_iff.1 hv).1
        rw [List.length_take] at this
        omega
      rw [List.getElem?_take_of_lt hi, List.getElem?_drop] at hv
      rw [Nat.zero_add, h1.cellAt (j * 4 + i) (by omega)]
      exact hv

set_option maxRecDepth 100000 in
set_option maxHeartbeats 8000000 in
theorem heldDrop_3 (A : Option Addr) (n c : Nat) (l : Tb) (id : Int) (w : World) (hl : TAsk w A n c l) (hf : FewT l) (h1 : rightT l = true) (h2 : hasT l id = true) :
    Calls Try.prog 25 #[.slice A n c, .int .i64 id] w (DPost (l.filter fun x => x.id != id) (getT l id) w) := by
  obtain ⟨W, hW⟩ : ∃ W, W = w.alloc (hO hd0 none 0 0) := ⟨_, rfl⟩
  have BR : Hid (BoxH W w.heap.size hd0 none 0 0) := Lib.hid (by rw [hW]; exact boxH_new w hd0 none 0 0)
  have hb0 : Below w.heap.size w W := by rw [hW]; exact (Below.refl _ _).alloc (Nat.le_refl _) _
  have HB := Lib.hid hb0
  have HL0 := Lib.hid hl
  have HT := Lib.hid (hl.next hb0)
  have HF := Lib.hid hf
  have HLN := Lib.hid hl.reads.len
  have hn100 : n ≤ 100 := by rw [← hl.reads.len]; exact hf.1
  have R1 := Lib.hid h1
  have HHAS := Lib.hid h2
  have HIDS := Lib.hid (rightT_is.1 h1).ids
  obtain ⟨gx, hgx⟩ : ∃ gx, getT l id = gx := ⟨_, rfl⟩
  have HGX := Lib.hid hgx
  obtain ⟨dl, hdl⟩ : ∃ dl, l.filter (fun x => x.id != id) = dl := ⟨_, rfl⟩
  have HDL := Lib.hid hdl
  rw [hgx, hdl]
  unfold hO at hW
  simp only [hd0] at hW
  clear hb0 hl hf h1 h2 hgx hdl
  go_enter Try.func25, Try.ntmps25
  go_wp2_with fail
  rw [← hW]
  refine (heldRight_b HT.out.reads HT.out.nil HF.out R1.out).mono ?_
  rintro e w1 ⟨rfl, hb⟩
  have HBq := Lib.hid (HB.out.trans (hb.mono HB.out.size))
  clear HB
  have HB := HBq
  clear HBq
  have HTq := Lib.hid (HT.out.next hb)
  clear HT
  have HT := HTq
  clear HTq
  have BRq := Lib.hid (BR.out.next hb)
  clear BR
  have BR := BRq
  clear BRq
  clear hb
  clear hW
  go_wp2_with fail
  refine (find_any A n c l id _ HT.out.reads (by omega) HIDS.out).mono ?_
  rintro e w2 ⟨⟨K, rfl, hK⟩, hb⟩
  have HK := Lib.hid hK
  have HHE : Hid (hereB l id K = true) := Lib.hid (by rw [here_has HIDS.out hK]; exact HHAS.out)
  rw [HHE.out]
  clear hK
  have HBq := Lib.hid (HB.out.trans (hb.mono HB.out.size))
  clear HB
  have HB := HBq
  clear HBq
  have HTq := Lib.hid (HT.out.next hb)
  clear HT
  have HT := HTq
  clear HTq
  have BRq := Lib.hid (BR.out.next hb)
  clear BR
  have BR := BRq
  clear BRq
  clear hb
  have hKl := (here_facts HHE.out).1
  have hga := get_at R1.out HHE.out
  rw [HGX.out] at hga
  have hKn : K < n := by rw [← HLN.out]; exact hKl
  have HKN := Lib.hid hKn
  have hmx := HF.out.at hKl
  have HDR : Hid (l.take K ++ l.drop (K + 1) = dl) := Lib.hid (by rw [← HDL.out]; exact (drop_at HIDS.out HK.out HHE.out).symm)
  obtain ⟨b, off, A2, m2, c2, rfl, hbl, c0, c1, c2', c3, hx⟩ := RT.one HL0.out.reads hKn
  obtain ⟨x, hxx⟩ : ∃ x, l.getD K hd0 = x := ⟨_, rfl⟩
  rw [hxx] at c0 c2' c3 hx hmx hga
  have hga2 := hga.symm
  subst hga2
  have HX := Lib.hid hx
  have hm2 : m2 ≤ 1000 := by have := hx.reads.1; omega
  have hbne : b ≠ w.heap.size := by omega
  have hK2000 : IntKind.i64.wrap ((K : Int) + 1) = (K : Int) + 1 := IntWalk.i64_in _ (by omega)
  clear hx hxx hmx hKl hga
  go_wp2
  have HKEEP : Hid (∀ wx, Below w.heap.size w wx → wx.cell? ⟨b, off + K * 4, none⟩ = some (.int .i64 x.id) ∧ wx.cell? ⟨b, off + K * 4 + 1, none⟩ = some (.slice A2 m2 c2) ∧ wx.cell? ⟨b, off + K * 4 + 2, none⟩ = some (.int .i64 x.frm) ∧ wx.cell? ⟨b, off + K * 4 + 3, none⟩ = some (.int .i64 x.to)) := Lib.hid (fun wx hz => ⟨keep_cellH hbl c0 hz, keep_cellH hbl c1 hz, keep_cellH hbl c2' hz, keep_cellH hbl c3 hz⟩)
  have hd := bel_drewH w2
  have HBq := Lib.hid (HB.out.trans (hd.mono HB.out.size))
  clear HB
  have HB := HBq
  clear HBq
  have HTq := Lib.hid (HT.out.next hd)
  clear HT
  have HT := HTq
  clear HTq
  have BRq := Lib.hid (BR.out.next hd)
  clear BR
  have BR := BRq
  clear BRq
  clear hd
  go_region_held3 (fun w' => w'.cell? ⟨b, off + K * 4, none⟩ = some (.int .i64 x.id) ∧ w'.cell? ⟨b, off + K * 4 + 1, none⟩ = some (.slice A2 m2 c2) ∧ w'.cell? ⟨b, off + K * 4 + 2, none⟩ = some (.int .i64 x.frm) ∧ w'.cell? ⟨b, off + K * 4 + 3, none⟩ = some (.int .i64 x.to))
    (first | exact HKEEP.out _ HB.out | exact HKEEP.out _ HBq.out | exact HKEEP.out _ HBr.out | exact HKEEP.out _ HBs.out | exact HKEEP.out _ (below_four HBs.out (Nat.le_refl _)) | go_keep | fail)
    (first | (go_at_call 28; (with_reducible refine (sameZ_any w.heap.size _ n c l w2.drew HB.out.size (HL0.out.reads.below HB.out) HL0.out.nil HF.out).mono ?_); rintro e w8 ⟨v, rfl, hon⟩; obtain ⟨A1, c1', rfl, hz1, hz2⟩ := ON.form hon.on; rw [HLN.out] at hon ⊢; have HO := Lib.hid hon; have HBq := Lib.hid (HB.out.trans (hon.bel.mono HB.out.size)); clear hon hz1 hz2) | (go_at_call 43; (with_reducible refine (deleteZ_on HO.out HLN.out HKN.out).mono ?_); rintro e w9 ⟨v', rfl, hon⟩; have hon' := HDR.out ▸ hon; clear hon; have hon := hon'; clear hon'; obtain ⟨A6, c6, rfl, hz1, hz2⟩ := ON.form hon.on; have HO2 := Lib.hid hon; have HBr := Lib.hid (HB.out.trans (hon.bel.mono HB.out.size)); have HXr := Lib.hid (HX.out.next HBr.out); have HRr := Lib.hid (BR.out.next hon.bel); have HZ := Lib.hid (And.intro hz1 hz2); clear hon hz1 hz2) | (go_at_call 39; (with_reducible refine (own_any A2 m2 c2 x w9 HXr.out hm2).mono ?_); rintro e w10 ⟨⟨A5, c5, rfl, hx5, he5⟩, hb⟩; have HO3 := Lib.hid (HO2.out.next hb); have HBs := Lib.hid (HBr.out.trans (hb.mono HBr.out.size)); have HRs := Lib.hid (HRr.out.next hb); have HE5 := Lib.hid he5; have HLT := Lib.hid HRr.out.lt; clear hx5 he5 hb; have p0 := HRs.out.c0; have y0 := HRs.out.frozen 0; have p1 := HRs.out.c1; have y1 := HRs.out.frozen 1; have p2 := HRs.out.c2; have y2 := HRs.out.frozen 2; have p3 := HRs.out.c3; have y3 := HRs.out.frozen 3) | fail)
  go_wp2
  have b1 := HRs.out.store4 x A5 m2 c5
  have r0 := b1.c0
  have r1 := b1.c1
  have r2 := b1.c2
  have r3 := b1.c3
  have hlt := BR.out.lt
  have hrow := HO3.out.out4 (v0 := .int .i64 x.id) (v1 := .slice A5 m2 c5) (v2 := .int .i64 x.frm) (v3 := .int .i64 x.to) (Nat.le_refl _) hlt
  refine bodyPost_ret (v := .tuple #[.slice A6 dl.length c6, .agg #[.int .i64 x.id, .slice A5 m2 c5, .int .i64 x.frm, .int .i64 x.to], .int .i64 0]) (by simp [results, Try.results25, go_sem, r0, r1, r2, r3]) rfl ⟨⟨A6, dl.length, c6, A5, m2, c5, rfl, ⟨hrow.rt rfl (fun b hb => by rw [four_size]; exact okz_lt HO3.out.le HO3.out.bel hb), HZ.out⟩, ?_⟩, below_four HBs.out (Nat.le_refl _)⟩
  exact EH.ask (eh_steady.keep HE5.out (fun b hb => four_other (by have := HLT.out; omega)) (ok' := fun b => b < _) (fun b hb => by rw [four_size]; exact hb.2)) (fun _ h => h)

theorem heldDrop_any (A : Option Addr) (n c : Nat) (l : Tb) (id : Int) (w : World) (hl : TAsk w A n c l) (hf : FewT l) (h : dropE l id = 0) : Calls Try.prog 25 #[.slice A n c, .int .i64 id] w (DPost (dropT l id) (getT l id) w) := by
  have e : dropT l id = l.filter fun x => x.id != id := by unfold dropT; rw [if_pos h]
  rw [e]
  unfold dropE at h
  cases h1 : rightT l with
  | false => rw [h1, if_pos rfl] at h; cases h
  | true =>
    cases h2 : hasT l id with
    | false => rw [h1, h2, if_neg (by simp), if_pos rfl] at h; cases h
    | true => exact heldDrop_3 A n c l id w hl hf h1 h2

end Go.Proofs.Ytbiofikijehlcaa
