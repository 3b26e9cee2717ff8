/- slices.Sort and slices.Compact of times, by the library's contracts, in a row of one's own. The program's Ends of layer 10. The program's functions of layer 10 keep their contracts. -/
import Derived.Test.YtbiofikijehlcaaDoorMg10
import Derived.Test.YtbiofikijehlcaaDoorMg04
import Derived.Test.YtbiofikijehlcaaDoorMg08
namespace Go.Proofs.YtbiofikijehlcaaDoor
open Go.RowKit Go.Sort

theorem int64_info : (Tryd.prog.info? 2).map (fun i => (i.zero, i.size, i.bytes)) = some (some (.int .i64 0), 1, 8) := by kernel_rfl
theorem ends_take_yes {l : Tb} {k : Nat} {z : Int} (hk : k < l.length) (h : z < (l.getD k hd0).to) : ((l.take (k + 1)).map Hd.to).filter (fun t => decide (z < t)) = ((l.take k).map Hd.to).filter (fun t => decide (z < t)) ++ [(l.getD k hd0).to] := by
  rw [getD_at hk] at h ⊢
  rw [List.take_succ_eq_append_getElem hk, List.map_append, List.filter_append]
  simp [h]
theorem ends_take_no {l : Tb} {k : Nat} {z : Int} (hk : k < l.length) (h : ¬ z < (l.getD k hd0).to) : ((l.take (k + 1)).map Hd.to).filter (fun t => decide (z < t)) = ((l.take k).map Hd.to).filter (fun t => decide (z < t)) := by
  rw [getD_at hk] at h
  rw [List.take_succ_eq_append_getElem hk, List.map_append, List.filter_append]
  simp [h]
theorem put_below {B g q : Nat} {w0 w : World} {d : Array Int} (h : Below B w0 w) (hB : B ≤ g) : Below B w0 (putRow (Value.int .i64) (Sort.ahead w q) g 0 d) := by
  refine h.trans ⟨rfl, rfl, rfl, by simp [putRow, mapBlock], fun b hb => ?_⟩
  show ((Sort.ahead w q).heap.modify g (onCells (putCells (Value.int .i64) 0 d)))[b]? = _
  rw [Array.getElem?_modify, if_neg (by omega)]
  rfl
theorem grow_below {B : Nat} {w0 w : World} {os : Array Obj} (h : Below B w0 w) (hB : B ≤ w.heap.size) : Below B w0 (grow w os) :=
  h.trans ⟨rfl, rfl, rfl, by simp, fun b hb => heap_grow_old w os (by omega)⟩

set_option maxRecDepth 100000 in
set_option maxHeartbeats 2000000 in
/-- too short to hold a time twice -/
theorem compact_short (A : Option Addr) (n c : Nat) (w : World) (hn : n < 2) :
    Calls Tryd.prog 29 #[.slice A n c] w fun e w' => e = .returned (.slice A n c) ∧ w' = w := by
  have d0 : decide (n < 2) = true := decide_eq_true hn
  go_enter Tryd.func29, Tryd.ntmps29
  go_wp2
  go_ret
  exact ⟨rfl, rfl⟩
/-- sorted in place -/
theorem sortTimes_any (A : Option Addr) (n c : Nat) (L : List Int) (w wr : World) (hO : ON EI 1 2 w (.slice A n c) L wr) (hln : L.length = n) (hn : n ≤ 1000) :
    Calls Tryd.prog 28 #[.slice A n c] wr fun e w' => e = .returned (.tuple #[]) ∧ Below w.heap.size w w' ∧ (n = 0 ∨ ∃ g, A = some ⟨g, 0, none⟩ ∧ w.heap.size ≤ g ∧ g < w'.heap.size ∧ Holds (Value.int .i64) w' g 0 (L.mergeSort fun x y => decide (x ≤ y)).toArray) := by
  rcases Nat.eq_zero_or_pos n with h0 | h0
  · subst h0
    have hcon := Go.Proofs.AnyM.slices_Sort_int_none Tryd.sortTimes A c wr
    change Calls Tryd.prog 28 _ _ _ at hcon
    exact hcon.mono fun e w' ⟨h1, h2⟩ => ⟨h1, by rw [h2]; exact hO.below, .inl rfl⟩
  · obtain ⟨h1, h2⟩ := on_own hO
    obtain ⟨g, rfl, hgb, hgl⟩ := hO.head h0
    rw [hln] at h1
    have hH : Holds (Value.int .i64) wr g 0 L.toArray := fun j hj => by
      have hj' : j < L.length := by simpa using hj
      rw [Nat.zero_add, h1.cellAt j (by omega), h1.frozenAt j, List.getElem?_map, List.getElem?_eq_getElem hj', arr_at hj']
      exact ⟨rfl, rfl⟩
    have hcon := Go.Proofs.AnyM.slices_Sort_int Tryd.sortTimes g 0 c L wr hH hgl (by omega)
    change Calls Tryd.prog 28 _ _ _ at hcon
    rw [hln] at hcon
    refine hcon.mono fun e w' ⟨e1, q, os, e2⟩ => ⟨e1, ?_, .inr ⟨g, rfl, hgb, ?_, ?_⟩⟩
    · rw [e2]
      exact grow_below (put_below h2 hgb) (by simp [putRow, mapBlock]; exact h2.size)
    · rw [e2]
      simp [putRow, mapBlock]
      show g < wr.heap.size + _
      omega
    · rw [e2]
      exact holds_grow _ _ _ _ _ _ (by simp [putRow, mapBlock]; exact hgl) (holds_putRow _ _ _ _ L.toArray _ (holds_ahead _ _ _ _ _ _ hH) (by simp))

/-- each once -/
theorem compactTimes_any (g n c : Nat) (S : List Int) (w wr : World) (hb : Below w.heap.size w wr) (hgb : w.heap.size ≤ g) (hgl : g < wr.heap.size) (hH : Holds (Value.int .i64) wr g 0 S.toArray) (hln : S.length = n) (hn : n ≤ 1000) (hc : n ≤ c) :
    Calls Tryd.prog 29 #[.slice (some ⟨g, 0, none⟩) n c] wr (IPost (Lib.compactUpTo S.toArray S.length) w) := by
  have hsz : S.toArray.size = n := by simpa using hln
  have hcon := Go.Proofs.AnyE.slices_Compact Tryd.compactTimes (Value.int .i64) (fun _ => rfl) (Go.Proofs.EqlAt.intD _ _ _) (Go.Proofs.NeqAt.intD _ _ _) 0 Tryd.zeroValue2 g 0 c S.toArray wr hH (by omega) (by omega)
  change Calls Tryd.prog 29 _ _ _ at hcon
  rw [hsz] at hcon
  rw [hln]
  obtain ⟨L, hL⟩ : ∃ L, Lib.compactUpTo S.toArray n = L := ⟨_, rfl⟩
  have hLn : L.length ≤ n := by
    rw [← hL]
    unfold Lib.compactUpTo
    rw [List.length_map]
    have := List.length_filter_le (Lib.keeps S.toArray) (List.range n)
    rwa [List.length_range] at this
  rw [hL] at hcon ⊢
  refine hcon.mono fun e w' ⟨e1, q, e2⟩ => ?_
  have hP : Holds (Value.int .i64) w' g 0 (L ++ List.replicate (n - L.length) 0).toArray := by
    rw [e2]
    exact holds_putRow _ _ _ _ S.toArray _ (holds_ahead _ _ _ _ _ _ hH) (by simp; omega)
  have hgl' : g < w'.heap.size := by rw [e2]; simp [putRow, mapBlock]; exact hgl
  rw [e1]
  refine ipost_mk ⟨rfl, fun h0 => ⟨g, 0, rfl, hgl', fun j hj => ?_⟩⟩ (fun e => by cases e) (by omega) (by rw [e2]; exact put_below hb hgb)
  have h1 := (hP j (by simp; omega)).1
  rw [h1, arr_at (by simp; omega), List.getElem_append_left hj, List.getD, List.getElem?_eq_getElem hj]
  rfl


end Go.Proofs.YtbiofikijehlcaaDoor

namespace Go.Proofs.YtbiofikijehlcaaDoor
open Go.RowKit

set_option maxRecDepth 100000 in
set_option maxHeartbeats 8000000 in
theorem heldEnds_yes (A : Option Addr) (n c : Nat) (l : Tb) (z : Int) (w : World) (hl : TAsk w A n c l) (hf : FewT l) (hrt : rightT l = true) :
    Calls Tryd.prog 13 #[.slice A n c, .int .i64 z] w (IPost (endsT l z) w) := by
  obtain ⟨i0, hi0, hz0, hz1, hz2⟩ := info_parts int64_info
  have HT := Lib.hid hl
  have HF := Lib.hid hf
  have R1 := Lib.hid hrt
  have HL := Lib.hid hl.reads.len
  have hn100 : n ≤ 100 := by rw [← hl.reads.len]; exact hf.1
  obtain ⟨L, hLL⟩ : ∃ L, (l.map Hd.to).filter (fun t => decide (z < t)) = L := ⟨_, rfl⟩
  have HLL := Lib.hid hLL
  have HE : Hid (endsT l z = L.foldr insZ []) := Lib.hid (by unfold endsT; rw [if_pos hrt, hLL])
  rw [HE.out]
  clear hl hf hrt hLL
  go_enter Tryd.func13, Tryd.ntmps13
  go_wp2_with fail
  refine (heldRight_b HT.out.reads HT.out.nil HF.out R1.out).mono ?_
  rintro e w1 ⟨rfl, hb1⟩
  have HB1 := Lib.hid hb1
  have HT1 := Lib.hid (HT.out.next hb1)
  clear hb1
  go_wp2
  go_loopw [5, 13] (fun v i wr => ∃ k : Nat, k ≤ n ∧ i = .int .i64 k ∧ ON EI 1 2 w1 v (((l.take k).map Hd.to).filter (fun t => decide (z < t))) wr) (fun _ i _ => n - (intOf i).toNat)
  case atStart => exact ⟨0, Nat.zero_le _, rfl, ON.nil _⟩
  case round =>
    obtain ⟨k, hk, rfl, hrel⟩ := hrel
    have HK := Lib.hid hrel
    clear hrel
    by_cases hlt : k < n
    · have hkl : k < l.length := by rw [HL.out]; exact hlt
      have HLA : Hid ((((l.take k).map Hd.to).filter (fun t => decide (z < t))).length ≤ 1000) := Lib.hid (by have := List.length_filter_le (fun t : Int => decide (z < t)) ((l.take k).map Hd.to); rw [List.length_map, List.length_take] at this; omega)
      obtain ⟨b, off, A2, m2, c2, rfl, hbl, c0, c1', c2', c3', hx⟩ := RT.one (HT1.out.reads.next HK.out.below) hlt
      have hyes := ends_take_yes (z := z) hkl
      have hno := ends_take_no (z := z) hkl
      obtain ⟨x, hxx⟩ : ∃ x, l.getD k hd0 = x := ⟨_, rfl⟩
      rw [hxx] at c0 c2' c3' hyes hno
      have hba : Below wr.heap.size wr (wr.alloc (hO x A2 m2 c2)) := (Below.refl _ _).alloc (Nat.le_refl _) _
      have HKa := Lib.hid (HK.out.next ei_steady hba)
      have HBX : Hid (BoxH (wr.alloc (hO x A2 m2 c2)) wr.heap.size x A2 m2 c2) := Lib.hid (boxH_new wr x A2 m2 c2)
      unfold hO at HKa HBX
      obtain ⟨Wa, hWa⟩ : ∃ Wa, wr.alloc (.cells #[.int .i64 x.id, .slice A2 m2 c2, .int .i64 x.frm, .int .i64 x.to] 37) = Wa := ⟨_, rfl⟩
      rw [hWa] at HKa HBX
      have q3 := HBX.out.c3
      by_cases hto : z < x.to
      · have d0 : decide (z < x.to) = true := decide_eq_true hto
        have HS := Lib.hid (hyes hto)
        clear hyes hno hx hxx hto hkl hba hbl
        go_wp2_with (at_builtin; refine append_EI rfl (.tmp 21) (.tmp 24) 38 2 rfl HKa.out i0 Tryd.underlying38 hi0 hz0 hz1 hz2 rfl _ rfl HLA.out ?_; intro v' w4 hON4; refine Hid.out ?_)
        refine Lib.hid ?_
        have HO4 := Lib.hid hON4
        clear hON4 c0 c1' c2' c3' q3
        go_wp2
        go_roundw
        case rel => exact ⟨k + 1, by omega, by go_num, by rw [HS.out]; exact HO4.out⟩
        case measure => simp [intOf]; omega
      · have d0 : decide (z < x.to) = false := decide_eq_false hto
        have HS := Lib.hid (hno hto)
        clear hyes hno hx hxx hto hkl hba hbl
        go_wp2_with (simp only [hWa])
        go_roundw
        case rel => exact ⟨k + 1, by omega, by go_num, by rw [HS.out]; exact HKa.out⟩
        case measure => simp [intOf]; omega
    · have hkn : k = n := by omega
      have htk : l.take k = l := List.take_of_length_le (by rw [HL.out]; omega)
      rw [htk, HLL.out] at HK
      obtain ⟨A1, c1, rfl, hnil1, hc1⟩ := HK.out.form
      have hLn : L.length ≤ 1000 := by
        rw [← HLL.out]
        have := List.length_filter_le (fun t : Int => decide (z < t)) (l.map Hd.to)
        rw [List.length_map, HL.out] at this
        omega
      have HC1 := Lib.hid hc1
      have HN1 := Lib.hid hnil1
      have HLn := Lib.hid hLn
      obtain ⟨len, hlen⟩ : ∃ len, L.length = len := ⟨_, rfl⟩
      have HLEN := Lib.hid hlen
      rw [hlen] at HK HC1 HLn ⊢
      clear htk hnil1 hc1 hLn hlen
      go_wp2_with fail
      refine (sortTimes_any A1 len c1 L w1 wr HK.out HLEN.out HLn.out).mono ?_
      rintro e w5 ⟨rfl, hb5, hs⟩
      have HB5 := Lib.hid hb5
      rcases hs with h0 | ⟨g, rfl, hgb, hgl, hH⟩
      · subst h0
        have HE0 : Hid (L.foldr insZ [] = []) := Lib.hid (by
          have : L = [] := List.eq_nil_of_length_eq_zero HLEN.out
          rw [this]
          rfl)
        clear hb5
        go_wp2_with fail
        refine (compact_short A1 0 c1 w5 (by omega)).mono ?_
        rintro e w6 ⟨rfl, rfl⟩
        have HP : Hid (IPost (L.foldr insZ []) w (.returned (.slice A1 0 c1)) w6) := Lib.hid (by
          rw [HE0.out]
          exact ipost_mk RI.nil HN1.out HC1.out (HB1.out.trans (HB5.out.mono HB1.out.size)))
        go_wp2
        go_ret
        exact HP.out
      · have HS5 := Lib.hid (compactTimes_any g len c1 (L.mergeSort fun x y => decide (x ≤ y)) w1 w5 hb5 hgb hgl hH (by rw [List.length_mergeSort, HLEN.out]) HLn.out HC1.out)
        rw [compact_sort] at HS5
        clear hb5 hgb hgl hH
        go_wp2_with fail
        refine HS5.out.mono ?_
        rintro e w6 ⟨⟨A6, c6, rfl, hr6, hn6, hc6⟩, hb6⟩
        have HP : Hid (IPost (L.foldr insZ []) w (.returned (.slice A6 (L.foldr insZ []).length c6)) w6) := Lib.hid ⟨⟨A6, c6, rfl, hr6, hn6, hc6⟩, HB1.out.trans (hb6.mono HB1.out.size)⟩
        obtain ⟨r, hr⟩ : ∃ r, (L.foldr insZ []).length = r := ⟨_, rfl⟩
        rw [hr] at HP ⊢
        clear hr6 hn6 hc6 hb6 hr
        go_wp2
        go_ret
        exact HP.out
theorem heldEnds_any (A : Option Addr) (n c : Nat) (l : Tb) (z : Int) (w : World) (hl : TAsk w A n c l) (hf : FewT l) :
    Calls Tryd.prog 13 #[.slice A n c, .int .i64 z] w (IPost (endsT l z) w) := by
  cases h1 : rightT l with
  | true => exact heldEnds_yes A n c l z w hl hf h1
  | false =>
    have e : endsT l z = [] := by unfold endsT; rw [h1, if_neg (by simp)]
    rw [e]
    have R1 := Lib.hid h1
    have HT := Lib.hid hl
    have HF := Lib.hid hf
    clear h1 hl hf e
    go_enter Tryd.func13, Tryd.ntmps13
    go_wp2_with fail
    refine (heldRight_b HT.out.reads HT.out.nil HF.out R1.out).mono ?_
    rintro e w1 ⟨rfl, hb⟩
    have HB := Lib.hid hb
    clear hb
    go_wp2
    go_ret
    exact ipost_nil HB.out

end Go.Proofs.YtbiofikijehlcaaDoor

namespace Go.Proofs.YtbiofikijehlcaaDoor
open Go.RowKit

theorem heldOk_is : HeldOk where
  right A n c l w hl hf := heldRight_any A n c l w hl.reads hl.nil hf
  over A n c l z w hl hf := heldOver_any A n c l z w hl hf
  busy A n c l a b w hl hf := heldBusy_any A n c l a b w hl hf
  ends A n c l z w hl hf := heldEnds_any A n c l z w hl hf
  add A n c l A2 m c2 h w hl hf hh hm := heldAdd_any A n c l A2 m c2 h w hl hf hh hm

end Go.Proofs.YtbiofikijehlcaaDoor
