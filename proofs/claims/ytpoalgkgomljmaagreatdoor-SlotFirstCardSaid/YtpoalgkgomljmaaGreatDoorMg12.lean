/- slices.Insert and slices.Delete of holdings (the library's own text), in a row of one's own: there is room or not, at the end or ahead of it. slices.Delete of one holding (the library's own text), in a row of one's own. Plain facts for the program's way through a table: till when each thing is held, by those gone through, the earlier ones first. No program's text is walked here. The program's find: slices.BinarySearchFunc over a table, by a walk over its text. Plain facts: what is added, dropped, got, cut short, told by the place where a number stands; rows of cells, one more or one less. Go's slices.SortFunc of holdings at this dump, by the library's contract. -/
import Derived.Lib.Overlaps
import Derived.Lib.AppendZerosOnto
import Derived.Deep.RegionLaw
import Derived.Laws.NewBlocks
import Derived.IntWalk
import Derived.LoopTactic
import Derived.Test.YtpoalgkgomljmaaGreatDoorMg10
import Derived.Test.YtpoalgkgomljmaaGreatDoorMg11
import Derived.Shelf.GgSortFunc.RowK
import Derived.Lib.SliceRun
import Derived.Laws.Rows
import Derived.Test.YtpoalgkgomljmaaGreatDoorMg02
import Derived.RegionTactic
import Derived.Shelf.Abstract
import Derived.Shelf.SlSortCmp.WholeK
import Derived.Shelf.SlSortCmp.NoneTotal
import Derived.Test.YtpoalgkgomljmaaGreatDoorProg
namespace Go.Proofs.YtpoalgkgomljmaaGreatDoor
open Go.RowKit

/-- the row behind an Insert or a Delete; all other blocks are kept -/
def InsQ (base n : Nat) (fl : List Value) (v : Value) (w : World) (e : Ending) (w' : World) : Prop :=
  ∃ v', e = .returned v' ∧ w'.ownsRow base 51 4 v' n fl ∧ Below base w w' ∧ Keeps w v w' v'
theorem held_size : (Tryz.prog.info? 51).map (·.size) = some 4 := by kernel_rfl
theorem add_off (b j k : Nat) : (⟨b, j, none⟩ : Addr).add k = ⟨b, j + k, none⟩ := by unfold Addr.add; split <;> simp_all

section
variable {base g cap n i vb : Nat} {fl cur : List Value} {v0 v1 v2 v3 : Value} {w : World}
theorem four_at {W : World} (hv : W.heap[vb]? = some (.cells #[v0, v1, v2, v3] 51 (0, 0))) : ∀ j u, ([v0, v1, v2, v3] : List Value)[j]? = some u → W.cell? ((⟨vb, 0, none⟩ : Addr).add j) = some u := by
  intro j u hj
  rw [add_off, cell_of_row W vb (0 + j) _ _ (0, 0) hv, Nat.zero_add]
  match j, hj with
  | 0, hj => exact hj
  | 1, hj => exact hj
  | 2, hj => exact hj
  | 3, hj => exact hj

set_option maxHeartbeats 4000000 in
set_option maxRecDepth 100000 in
/-- at the end -/
theorem insertH_end (hn : n ≤ 3000) (hown : w.ownsRow base 51 4 (.slice (some ⟨g, 0, none⟩) n cap) n fl)
    (hv : w.heap[vb]? = some (.cells #[v0, v1, v2, v3] 51 (0, 0))) (h4 : ∀ u ∈ ([v0, v1, v2, v3] : List Value), u.oneCell' = true) :
    Calls Tryz.prog 52 #[.slice (some ⟨g, 0, none⟩) n cap, .int .i64 n, .slice (some ⟨vb, 0, none⟩) 1 1] w (InsQ base (n + 1) (fl ++ [v0, v1, v2, v3]) (.slice (some ⟨g, 0, none⟩) n cap) w) := by
  obtain ⟨i0, hi0, hz0, hz1, hz2⟩ : ∃ i, Tryz.prog.info? 51 = some i ∧ i.zero = some (.agg #[.int .i64 0, .slice none 0 0, .int .i64 0, .int .i64 0]) ∧ i.size = 4 ∧ i.bytes = 48 := info_parts held_info
  have HO := Lib.hid hown
  have HG : Hid (base ≤ g ∧ g < w.heap.size) := Lib.hid (hown.lt g rfl)
  have HV := Lib.hid hv
  have H4 := Lib.hid h4
  clear hown hv h4
  go_enter Tryz.func52, Tryz.ntmps52
  go_wp2_with (at_builtin; refine wpList_append_lies _ rfl _ _ 24 rfl base 51 i0 (.agg #[.int .i64 0, .slice none 0 0, .int .i64 0, .int .i64 0]) 4 48 Tryz.underlying24 hi0 hz0 hz1 hz2 rfl (by decide) (.slice (some ⟨g, 0, none⟩) n cap) n _ rfl HO.out ⟨vb, 0, none⟩ 1 1 [v0, v1, v2, v3] rfl rfl (World.news_of_block HV.out) H4.out (by omega) (by unfold maxLen; omega) (by omega) (by have := HG.out; omega) _ rfl ?_; intro g' cap' w1 hown' hgrow hat _; refine Hid.out ?_)
  all_goals refine Lib.hid ?_
  all_goals have R := Lib.hid hown'
  all_goals have HB : Hid (Below base w w1) := Lib.hid ((Below.refl _ _).grown hgrow (by have := HG.out; omega) (fun k hk => (HO.out.lt k hk).1))
  all_goals have HK : Hid (Keeps w (.slice (some ⟨g, 0, none⟩) n cap) w1 (.slice (some ⟨g', 0, none⟩) (n + 1) cap')) := Lib.hid ⟨fun b hb hne => hgrow.block b hb (fun e => hne e.symm), hgrow.size, hat.imp (fun e => e.symm) (fun e b hb => by
      have hb' : g' = b := by simpa [Value.ownBlock] using hb
      rw [← hb', e]; exact Nat.le_refl _)⟩
  all_goals clear hown' hgrow hat
  all_goals go_wp2
  all_goals go_ret
  all_goals exact ⟨_, rfl, R.out, HB.out, HK.out⟩
end
theorem overlapsH_no (w : World) (vb g o lb cb : Nat) (a b c d : Value) (cur : List Value) (hg : w.heap[g]? = some (.cells cur.toArray 51 (0, 0))) (hpos : cur.length ≠ 0) (hv : w.heap[vb]? = some (.cells #[a, b, c, d] 51 (0, 0))) (hne : vb ≠ g) :
    (callFunc 84 #[.slice (some ⟨vb, 0, none⟩) 1 1, .slice (some ⟨g, o, none⟩) lb cb]).run Tryz.prog w = .ok (.value (.bool false)) w := by
  rw [run_callFunc_extern Tryz.func84 (by kernel_rfl) (by kernel_rfl) (by kernel_rfl) (e := Extern.SlicesOverlaps.overlaps #[24, 24] #[4]) (by kernel_rfl),
    Lib.run_overlaps_apart w 24 4 51 Tryz.underlying24 4 (fun _ => Tryz.sizeOf51 _) ⟨vb, 0, none⟩ ⟨g, o, none⟩ 1 1 lb cb hne 51 51 4 cur.length (by simp [World.shape?, hv]) (by simp [World.shape?, hg]) hpos (by simp [World.frozen?, hv]) (by simp [World.frozen?, hv])]
  rfl

set_option maxHeartbeats 4000000 in
set_option maxRecDepth 100000 in
/-- ahead of the end, and there is room -/
theorem insertH_room (base g cap n i vb : Nat) (cur : List Value) (fl : List Value) (v0 v1 v2 v3 : Value) (w : World) (hi : i < n) (hn : n ≤ 3000) (hg : w.heap[g]? = some (.cells cur.toArray 51 (0, 0))) (hroom : n + 1 ≤ cap) (hcm : cap ≤ maxLen) (hcs : cur.length = cap * 4)
    (htake : cur.take (n * 4) = fl) (hlc : fl.length = n * 4) (h1c : ∀ u ∈ fl, u.oneCell' = true) (h41 : ∀ u ∈ ([v0, v1, v2, v3] : List Value), u.oneCell' = true) (hb : base ≤ g) (hv : w.heap[vb]? = some (.cells #[v0, v1, v2, v3] 51 (0, 0))) (hne : vb ≠ g) :
    Calls Tryz.prog 52 #[.slice (some ⟨g, 0, none⟩) n cap, .int .i64 i, .slice (some ⟨vb, 0, none⟩) 1 1] w (InsQ base (n + 1) (fl.take (i * 4) ++ ([v0, v1, v2, v3] ++ fl.drop (i * 4))) (.slice (some ⟨g, 0, none⟩) n cap) w) := by
  have HOV : Hid (∀ o lb cb, (callFunc 84 #[.slice (some ⟨vb, 0, none⟩) 1 1, .slice (some ⟨g, o, none⟩) lb cb]).run Tryz.prog w = .ok (.value (.bool false)) w) := Lib.hid fun o lb cb => overlapsH_no w vb g o lb cb _ _ _ _ cur hg (by omega) hv hne
  have HG := Lib.hid hg
  have HV := Lib.hid hv
  have HT := Lib.hid htake
  have H1C := Lib.hid h1c
  have H41 := Lib.hid h41
  have HCS := Lib.hid hcs
  have HB := Lib.hid hb
  have HLC := Lib.hid hlc
  have s1 : Hid ((fl.drop (i * 4)).length = Nat.min (n + 1 - i) (n + 1 - (i + 1)) * 4) := Lib.hid (by
    rw [List.length_drop, hlc]
    show _ = min (n + 1 - i) (n + 1 - (i + 1)) * 4
    omega)
  have s2 : Hid (∀ j v, (fl.drop (i * 4))[j]? = some v → w.cell? ((⟨g, i * 4, none⟩ : Addr).add j) = some v) := Lib.hid (fun j v hj => by
    rw [add_off, cell_of_row w g (i * 4 + j) _ _ (0, 0) hg]
    rw [List.getElem?_drop, ← htake, List.getElem?_take] at hj
    split at hj
    · simpa using hj
    · cases hj)
  have s3 : Hid ((i + 1) * 4 + (fl.drop (i * 4)).length ≤ cur.length) := Lib.hid (by rw [List.length_drop, hlc, hcs]; omega)
  have s4 : Hid (∀ u ∈ fl.drop (i * 4), u.oneCell' = true) := Lib.hid (fun u hu => h1c u (List.mem_of_mem_drop hu))
  clear hg hv htake h1c h41 hcs hb hlc
  unfold maxLen at hcm
  have hb2 : ¬ (cap = i + 1) := by omega
  have hb4 : ¬ (cap = i) := by omega
  go_enter Tryz.func52, Tryz.ntmps52
  go_wp2_with (simp only [HOV.out])
  have hw1 : IntKind.i64.wrap ((i : Int) + 1) = (i : Int) + 1 := IntWalk.i64_in _ (by omega)
  have hb1 : (0 : Int) ≤ (i : Int) + 1 := by omega
  have htn : ((i : Int) + 1).toNat = i + 1 := by omega
  have hin : i ≤ n := by omega
  have hb3 : (i : Int) ≤ (n : Int) + 1 := by omega
  go_region_law (refine step_copy_rowN rfl (.tmp 73) (.tmp 76) 24 24 rfl 51 Tryz.underlying24 4 held_size g ((i + 1) * 4) (n + 1 - (i + 1)) (cap - (i + 1)) ⟨g, i * 4, none⟩ (n + 1 - i) (cap - i) (by simp [Act.eval, Act.put]) (by simp [Act.eval, Act.put]) cur 51 HG.out (fl.drop (i * 4)) s1.out s2.out s3.out s4.out base w ⟨rfl, rfl, rfl, Nat.le_refl _, fun _ _ => rfl⟩ HB.out _ rfl ?_; intro w4 H4)
  clear hw1 hb1 htn hb3
  obtain ⟨L1, hL1⟩ : ∃ L1, splice cur ((i + 1) * 4) (fl.drop (i * 4)) = L1 := ⟨_, rfl⟩
  have HL1 := Lib.hid hL1
  rw [hL1] at H4
  clear hL1
  have r1 : Hid (([v0, v1, v2, v3] : List Value).length = Nat.min 1 (n + 1 - i) * 4) := Lib.hid (by
    show 4 = min 1 (n + 1 - i) * 4
    omega)
  have r2 : Hid (∀ j v, ([v0, v1, v2, v3] : List Value)[j]? = some v → w4.cell? ((⟨vb, 0, none⟩ : Addr).add j) = some v) := Lib.hid (fun j v hj => by
    exact four_at ((H4.out.other vb hne).trans HV.out) j v hj)
  have r3 : Hid (i * 4 + ([v0, v1, v2, v3] : List Value).length ≤ L1.length) := Lib.hid (by
    have := s3.out
    rw [← HL1.out, length_splice _ _ _ s3.out, HCS.out]
    show i * 4 + 4 ≤ _
    omega)
  have r4 : Hid (∀ u ∈ ([v0, v1, v2, v3] : List Value), u.oneCell' = true) := H41
  go_wp2_with (with_reducible refine wpList_copy_rowN rfl (.tmp 80) (.tmp 81) 24 24 rfl 51 Tryz.underlying24 4 held_size g (i * 4) (n + 1 - i) (cap - i) ⟨vb, 0, none⟩ 1 1 rfl rfl L1 51 H4.out.row [v0, v1, v2, v3] r1.out r2.out r3.out r4.out base w H4.out.below HB.out _ rfl ?_; intro w5 H5; refine Hid.out ?_)
  refine Lib.hid ?_
  go_wp2
  go_ret
  have hlc := HLC.out
  refine ⟨_, rfl, ⟨by simp only [List.length_append, List.length_cons, List.length_take, List.length_drop, hlc]; omega, .inr ⟨g, cap, _, rfl, HB.out, H5.out.row, hroom, by unfold maxLen; omega, ?_, ?_⟩⟩, H5.out.below, ⟨fun b _ hne => (H5.out.other b (fun e => hne (by rw [e]; rfl))).trans (H4.out.other b (fun e => hne (by rw [e]; rfl))), by rw [H5.out.size, H4.out.size]; exact Nat.le_refl _, .inl rfl⟩⟩
  · have h3 := r3.out
    have h4 := s3.out
    rw [← HL1.out] at h3 ⊢
    rw [List.size_toArray, length_splice _ _ _ h3, length_splice _ _ _ h4, HCS.out]
  · have e1 : (i + 1) * 4 = i * 4 + ([v0, v1, v2, v3] : List Value).length := by simp; omega
    have e2 : (n + 1) * 4 = fl.length + ([v0, v1, v2, v3] : List Value).length := by rw [hlc]; simp; omega
    rw [← HL1.out, e1, e2, List.toList_toArray, splice_shift (by rw [hlc]; exact HT.out) (by omega) (by rw [hlc, HCS.out]; simp; omega)]
    rfl

set_option maxHeartbeats 4000000 in
set_option maxRecDepth 100000 in
/-- ahead of the end, and there is no room: a new row -/
theorem insertH_grow (base g n i vb : Nat) (fl : List Value) (v0 v1 v2 v3 : Value) (w : World) (hi : i < n) (hn : n ≤ 3000) (hg : w.heap[g]? = some (.cells fl.toArray 51 (0, 0)))
    (hlc : fl.length = n * 4) (h1c : ∀ u ∈ fl, u.oneCell' = true) (h41 : ∀ u ∈ ([v0, v1, v2, v3] : List Value), u.oneCell' = true) (hb : base ≤ g) (hv : w.heap[vb]? = some (.cells #[v0, v1, v2, v3] 51 (0, 0))) :
    Calls Tryz.prog 52 #[.slice (some ⟨g, 0, none⟩) n n, .int .i64 i, .slice (some ⟨vb, 0, none⟩) 1 1] w (InsQ base (n + 1) (fl.take (i * 4) ++ ([v0, v1, v2, v3] ++ fl.drop (i * 4))) (.slice (some ⟨g, 0, none⟩) n n) w) := by
  obtain ⟨i0, hi0, hz0, hz1, hz2⟩ : ∃ i, Tryz.prog.info? 51 = some i ∧ i.zero = some (.agg #[.int .i64 0, .slice none 0 0, .int .i64 0, .int .i64 0]) ∧ i.size = 4 ∧ i.bytes = 48 := info_parts held_info
  have hgw : g < w.heap.size := (Array.getElem?_eq_some_iff.1 hg).1
  have hvw : vb < w.heap.size := (Array.getElem?_eq_some_iff.1 hv).1
  have hcell : ∀ j v, fl[j]? = some v → w.cell? ⟨g, j, none⟩ = some v := fun j v hj => by
    rw [cell_of_row w g j _ _ (0, 0) hg]
    simpa using hj
  have hold : (Builtin.firstCells i0.size i (.slice (some ⟨g, 0, none⟩) i n)).run Tryz.prog w.drew = .ok (fl.take (i * 4)).toArray w.drew := by
    rw [hz1]
    exact run_firstCells_some w.drew 4 i ⟨g, 0, none⟩ i n (fl.take (i * 4)) (by rw [List.length_take]; omega) (fun j v hj => by
      rw [add_off, Nat.zero_add]
      rw [List.getElem?_take] at hj
      split at hj
      · exact hcell j v hj
      · cases hj)
  obtain ⟨G, hG⟩ : ∃ G, grownCap w (n + 1) n 51 = G := ⟨_, rfl⟩
  have hGn : n + 1 ≤ G := by rw [← hG]; exact grownCap_ge w _ _ _
  have hGm : G ≤ maxLen := by rw [← hG]; exact grownCap_le_maxLen w (n + 1) n 51 (by unfold maxLen; omega)
  obtain ⟨R, hR⟩ : ∃ R : List Value, ((fl.take (i * 4)).toArray ++ Builtin.zeroCells (Value.agg #[.int .i64 0, .slice none 0 0, .int .i64 0, .int .i64 0]).cells (n + 1 - i) ++ Builtin.zeroCells (Value.agg #[.int .i64 0, .slice none 0 0, .int .i64 0, .int .i64 0]).cells (G - (n + 1))).toList = R := ⟨_, rfl⟩
  have hRl : R.length = G * 4 := by
    rw [← hR, Array.length_toList, Array.size_append, Array.size_append, size_zeroCells, size_zeroCells]
    show (fl.take (i * 4)).toArray.size + (n + 1 - i) * 4 + (G - (n + 1)) * 4 = _
    rw [List.size_toArray, List.length_take]
    omega
  have hRt : R.take (i * 4) = fl.take (i * 4) := by
    rw [← hR, Array.toList_append, Array.toList_append, List.append_assoc, List.take_append_of_le_length (by simp; omega), List.take_of_length_le (by simp; omega)]
  obtain ⟨W1, hW1⟩ : ∃ W1, W1 = w.drew.alloc (.cells R.toArray 51) := ⟨_, rfl⟩
  have HRZ : Hid (∀ ty, (Builtin.append_ #[24, 3] ty #[.slice (some ⟨g, 0, none⟩) i n, .int .i64 ((n : Int) + 1 - (i : Int))]).run Tryz.prog w = .ok (.slice (some ⟨w.heap.size, 0, none⟩) (n + 1) G) W1) := Lib.hid (fun ty => by
    have h := Lib.run_append_grow_zeros w 24 3 ty 51 i0 _ .i64 .i64 Tryz.underlying24 Tryz.underlying3 hi0 hz0 (some ⟨g, 0, none⟩) i n (fl.take (i * 4)) hold (n + 1 - i) (by omega) (by rw [hz1]; omega) (by omega) (by omega) (by rw [hz2]; omega) (by rw [hz2, show i + (n + 1 - i) = n + 1 by omega]; exact growslice_fits (by omega) (by omega))
    rw [show i + (n + 1 - i) = n + 1 by omega, hG] at h
    rw [show ((n : Int) + 1 - (i : Int)) = ((n + 1 - i : Nat) : Int) by omega, h, hW1, ← hR])
  have HR1 : Hid (W1.heap[w.heap.size]? = some (.cells R.toArray 51 (0, 0))) := Lib.hid (by rw [hW1]; exact heap_alloc_new w.drew _)
  have HB1 : Hid (Below w.heap.size w W1) := Lib.hid (by rw [hW1]; exact (⟨rfl, rfl, rfl, Nat.le_refl _, fun _ _ => rfl⟩ : Below w.heap.size w w.drew).alloc (Nat.le_refl _) _)
  have HC := Lib.hid hcell
  have HV := Lib.hid hv
  have H1C := Lib.hid h1c
  have H41 := Lib.hid h41
  have HLC := Lib.hid hlc
  have HB := Lib.hid hb
  have HGW : Hid (g < w.heap.size ∧ vb < w.heap.size) := Lib.hid ⟨hgw, hvw⟩
  have HRL := Lib.hid hRl
  have HRT := Lib.hid hRt
  obtain ⟨N, hN⟩ : ∃ N, w.heap.size = N := ⟨_, rfl⟩
  have HN := Lib.hid hN
  rw [hN] at HRZ HR1 HB1 HGW
  clear hN hg hv h1c h41 hb hlc hcell hold hG hR hRl hRt hW1 hgw hvw hi0 hz0 hz1 hz2
  unfold maxLen at hGm
  have r1 : Hid (([v0, v1, v2, v3] : List Value).length = Nat.min 1 (n + 1 - i) * 4) := Lib.hid (by
    show 4 = min 1 (n + 1 - i) * 4
    omega)
  have r2 : Hid (∀ j v, ([v0, v1, v2, v3] : List Value)[j]? = some v → W1.cell? ((⟨vb, 0, none⟩ : Addr).add j) = some v) := Lib.hid (fun j v hj => by
    exact four_at ((HB1.out.block vb HGW.out.2).trans HV.out) j v hj)
  have r3 : Hid (i * 4 + ([v0, v1, v2, v3] : List Value).length ≤ R.length) := Lib.hid (by
    rw [HRL.out]
    show i * 4 + 4 ≤ _
    omega)
  have r4 : Hid (∀ u ∈ ([v0, v1, v2, v3] : List Value), u.oneCell' = true) := H41
  have hBN : base ≤ N := by have := HB.out; have := HGW.out; omega
  have HBN := Lib.hid hBN
  clear hBN
  have hc1 : ¬ (n = i) := by omega
  have hc2 : ¬ (G = i) := by omega
  have hc3 : ¬ (G = i + 1) := by omega
  go_enter Tryz.func52, Tryz.ntmps52
  go_wp2_with (at_builtin; refine Lib.wpList_append_run _ rfl _ _ _ _ rfl _ _ rfl rfl _ _ (HRZ.out _) ?_; refine Hid.out ?_)
  refine Lib.hid ?_
  go_wp2_with (with_reducible refine wpList_copy_rowN rfl (.tmp 43) (.tmp 44) 24 24 rfl 51 Tryz.underlying24 4 held_size N (i * 4) (n + 1 - i) (G - i) ⟨vb, 0, none⟩ 1 1 rfl rfl R 51 HR1.out [v0, v1, v2, v3] r1.out r2.out r3.out r4.out base w (HB1.out.mono HBN.out) HBN.out _ rfl ?_; intro w4 H4; refine Hid.out ?_)
  refine Lib.hid ?_
  go_wp2
  have q1 : Hid ((fl.drop (i * 4)).length = Nat.min (n - i) (n + 1 - (i + 1)) * 4) := Lib.hid (by
    rw [List.length_drop, HLC.out]
    show _ = min (n - i) (n + 1 - (i + 1)) * 4
    omega)
  have q2 : Hid (∀ j v, (fl.drop (i * 4))[j]? = some v → w4.cell? ((⟨g, i * 4, none⟩ : Addr).add j) = some v) := Lib.hid (fun j v hj => by
    have h4 : w4.heap[g]? = w.heap[g]? := (H4.out.other g (by have := HGW.out; omega)).trans (HB1.out.block g HGW.out.1)
    rw [add_off]
    have h5 : w4.cell? ⟨g, i * 4 + j, none⟩ = w.cell? ⟨g, i * 4 + j, none⟩ := World.cell?_of_block h4
    rw [h5]
    exact HC.out (i * 4 + j) v (by rwa [List.getElem?_drop] at hj))
  obtain ⟨L1, hL1⟩ : ∃ L1, splice R (i * 4) ([v0, v1, v2, v3] : List Value) = L1 := ⟨_, rfl⟩
  have HL1 := Lib.hid hL1
  rw [hL1] at H4
  clear hL1
  have q3 : Hid ((i + 1) * 4 + (fl.drop (i * 4)).length ≤ L1.length) := Lib.hid (by
    rw [← HL1.out, length_splice _ _ _ r3.out, HRL.out, List.length_drop, HLC.out]
    omega)
  have q4 : Hid (∀ u ∈ fl.drop (i * 4), u.oneCell' = true) := Lib.hid (fun u hu => H1C.out u (List.mem_of_mem_drop hu))
  have hw1 : IntKind.i64.wrap ((i : Int) + 1) = (i : Int) + 1 := IntWalk.i64_in _ (by omega)
  have hb1 : (0 : Int) ≤ (i : Int) + 1 := by omega
  have htn : ((i : Int) + 1).toNat = i + 1 := by omega
  have hin : i ≤ n := by omega
  have hb3 : (i : Int) ≤ (n : Int) + 1 := by omega
  have hb4 : (i : Int) ≤ (n : Int) := by omega
  go_region_law (refine step_copy_rowN rfl (.tmp 50) (.tmp 53) 24 24 rfl 51 Tryz.underlying24 4 held_size N ((i + 1) * 4) (n + 1 - (i + 1)) (G - (i + 1)) ⟨g, i * 4, none⟩ (n - i) (n - i) (by simp [Act.eval, Act.put]) (by simp [Act.eval, Act.put]) L1 51 H4.out.row (fl.drop (i * 4)) q1.out q2.out q3.out q4.out base w (H4.out.below.trans ⟨rfl, rfl, rfl, Nat.le_refl _, fun _ _ => rfl⟩) HBN.out _ rfl ?_; intro w5 H5)
  clear hw1 hb1 htn hb3 hb4
  go_wp2
  go_ret
  refine ⟨_, rfl, ⟨by simp only [List.length_append, List.length_cons, List.length_take, List.length_drop, HLC.out]; omega, .inr ⟨N, G, _, rfl, HBN.out, H5.out.row, hGn, by unfold maxLen; omega, ?_, ?_⟩⟩, H5.out.below, ⟨fun b hb _ => ((H5.out.other b (by have := HN.out; omega)).trans (H4.out.other b (by have := HN.out; omega))).trans (HB1.out.block b (by have := HN.out; omega)), by rw [H5.out.size]; show _ ≤ w4.heap.size; rw [H4.out.size]; exact HB1.out.size, .inr fun b hb => by
    have hb' : N = b := by simpa [Value.ownBlock] using hb
    have := HN.out
    omega⟩⟩
  · have h3 := q3.out
    have h4 := r3.out
    rw [← HL1.out] at h3 ⊢
    rw [List.size_toArray, length_splice _ _ _ h3, length_splice _ _ _ h4, HRL.out]
  · have ea : (fl.take (i * 4)).length = i * 4 := by rw [List.length_take, HLC.out]; omega
    have e0 : R.take (fl.take (i * 4)).length = fl.take (i * 4) := by rw [ea]; exact HRT.out
    have ed : (fl.drop (i * 4)).length = n * 4 - i * 4 := by rw [List.length_drop, HLC.out]
    have h := splice_fill (v := ([v0, v1, v2, v3] : List Value)) (d := fl.drop (i * 4)) e0 (by rw [ea, ed, HRL.out]; simp; omega)
    rw [ea, HL1.out] at h
    have e1 : (i + 1) * 4 = i * 4 + ([v0, v1, v2, v3] : List Value).length := by simp; omega
    have e2 : (n + 1) * 4 = i * 4 + ([v0, v1, v2, v3] : List Value).length + (fl.drop (i * 4)).length := by rw [ed]; simp; omega
    rw [e1, e2, List.toList_toArray, h]
    rfl

/-- slices.Insert of one holding into a row of one's own -/
theorem insertH_any (base i vb n : Nat) (A : Option Addr) (c : Nat) (fl : List Value) (v0 v1 v2 v3 : Value) (w : World) (h0 : 0 < n) (hi : i ≤ n) (hn : n ≤ 3000) (hown : w.ownsRow base 51 4 (.slice A n c) n fl) (h1c : ∀ u ∈ fl, u.oneCell' = true)
    (hv : w.heap[vb]? = some (.cells #[v0, v1, v2, v3] 51 (0, 0))) (h41 : ∀ u ∈ ([v0, v1, v2, v3] : List Value), u.oneCell' = true) (hne : ∀ g, A = some ⟨g, 0, none⟩ → vb ≠ g) :
    Calls Tryz.prog 52 #[.slice A n c, .int .i64 i, .slice (some ⟨vb, 0, none⟩) 1 1] w (InsQ base (n + 1) (fl.take (i * 4) ++ ([v0, v1, v2, v3] ++ fl.drop (i * 4))) (.slice A n c) w) := by
  have hlc : fl.length = n * 4 := hown.1
  rcases id hown.2 with ⟨_, h⟩ | ⟨g, cap, cur, e, hb, hg, hnc, hcm, hcs, htake⟩
  · omega
  · injection e with e1 e2 e3
    subst e1 e3
    by_cases hin : i = n
    · have e4 : fl.take (i * 4) ++ ([v0, v1, v2, v3] ++ fl.drop (i * 4)) = fl ++ [v0, v1, v2, v3] := by rw [hin, ← hlc, List.take_length, List.drop_length, List.append_nil]
      rw [e4, hin]
      exact insertH_end hn hown hv h41
    · have hg' : w.heap[g]? = some (.cells cur.toList.toArray 51 (0, 0)) := by simpa using hg
      by_cases hroom : n + 1 ≤ c
      · exact insertH_room base g c n i vb cur.toList fl v0 v1 v2 v3 w (by omega) hn hg' hroom hcm (by simpa using hcs) htake hlc h1c h41 hb hv (hne g rfl)
      · obtain rfl : c = n := by omega
        have e5 : cur.toList = fl := by rw [← htake, List.take_of_length_le (by simp; omega)]
        rw [e5] at hg'
        exact insertH_grow base g c i vb fl v0 v1 v2 v3 w (by omega) hn hg' hlc h1c h41 hb hv

end Go.Proofs.YtpoalgkgomljmaaGreatDoor

namespace Go.Proofs.YtpoalgkgomljmaaGreatDoor
open Go.RowKit

theorem setCells_row {g : Nat} {T : TypeId} : ∀ (vs : List Value) (o : Nat) (cur : Array Value) (w : World), w.heap[g]? = some (.cells cur T (0, 0)) → (w.setCells g o vs).heap[g]? = some (.cells (Go.Sort.setMany cur o vs) T (0, 0))
  | [], _, _, _, h => h
  | v :: r, o, cur, w, h => by
    rw [World.setCells, Go.Sort.setMany]
    exact setCells_row r (o + 1) _ _ (by
      show (w.heap.modify g _)[g]? = _
      rw [Array.getElem?_modify, if_pos rfl, h]
      rfl)
theorem setCells_other {g b : Nat} (hb : b ≠ g) : ∀ (vs : List Value) (o : Nat) (w : World), (w.setCells g o vs).heap[b]? = w.heap[b]?
  | [], _, _ => rfl
  | v :: r, o, w => by
    rw [World.setCells, setCells_other hb r]
    exact Below.heap_setCell _ _ _ _ hb
theorem setCells_size {g : Nat} : ∀ (vs : List Value) (o : Nat) (w : World), (w.setCells g o vs).heap.size = w.heap.size
  | [], _, _ => rfl
  | v :: r, o, w => by
    rw [World.setCells, setCells_size r]
    simp [World.setCell]
theorem setCells_below {B g : Nat} {w0 : World} (hg : B ≤ g) : ∀ (vs : List Value) (o : Nat) (w : World), Below B w0 w → Below B w0 (w.setCells g o vs)
  | [], _, _, h => h
  | v :: r, o, w, h => by
    rw [World.setCells]
    exact setCells_below hg r (o + 1) _ (h.setCell (p := ⟨g, o, none⟩) hg v)
/-- one holding is cleared -/
theorem clear_held (w : World) (ty : TypeId) {b o n c : Nat} (hn : n = 1) (hc : ∀ j, j < 4 → (w.cell? ⟨b, o + j, none⟩).isSome = true) (hf : ∀ j, j < 4 → w.frozen? ⟨b, o + j, none⟩ = false) :
    (Builtin.clear_ #[24] ty #[.slice (some ⟨b, o, none⟩) n c]).run Tryz.prog w = .ok (.tuple #[]) (w.setCells b o [.int .i64 0, .slice none 0 0, .int .i64 0, .int .i64 0]) := by
  subst hn
  have hst := run_storeCells_cells (P := Tryz.prog) b o [.int .i64 0, .slice none 0 0, .int .i64 0, .int .i64 0] 0 w (by simpa using hc) (by simpa using hf) (by intro v hv; simp at hv; rcases hv with rfl | rfl | rfl | rfl <;> rfl)
  simp only [Nat.add_zero] at hst
  have hzc : (Builtin.zeroCells (Value.agg #[.int .i64 0, .slice none 0 0, .int .i64 0, .int .i64 0]).cells 1).toList = [.int .i64 0, .slice none 0 0, .int .i64 0, .int .i64 0] := by
    apply List.ext_getElem?
    intro t
    match t with
    | 0 => simp [Builtin.zeroCells, Value.cells]
    | 1 => simp [Builtin.zeroCells, Value.cells]
    | 2 => simp [Builtin.zeroCells, Value.cells]
    | 3 => simp [Builtin.zeroCells, Value.cells]
    | t + 4 => simp [Builtin.zeroCells, Value.cells]
  have hz : ∀ w, (zeroValue 51).run Tryz.prog w = .ok (.agg #[.int .i64 0, .slice none 0 0, .int .i64 0, .int .i64 0]) w := Tryz.zeroValue51
  simp [Builtin.clear_, run_underlying Tryz.underlying24, hz, hzc, hst]


end Go.Proofs.YtpoalgkgomljmaaGreatDoor

namespace Go.Proofs.YtpoalgkgomljmaaGreatDoor

def NoClash (l : Tb) : Prop := l.Pairwise fun a b => clashH a b = false
instance (l : Tb) : Decidable (NoClash l) := by unfold NoClash; infer_instance
def twiceB (l : Tb) : Bool := !decide (NoClash l)
theorem noClash_perm {a b : Tb} (h : a.Perm b) : NoClash a ↔ NoClash b := h.pairwise_iff (fun {x y} h => by rw [clash_comm]; exact h)
/-- what has been gone through: the first k holdings, and j things of the next one -/
def Seen (m : Tb) (k j : Nat) (g : Hd) (n : Int) : Prop := (g ∈ m.take k ∧ n ∈ g.things) ∨ (k < m.length ∧ g = m.getD k hd0 ∧ n ∈ g.things.take j)
structure Till (m : Tb) (k j : Nat) (t : Nat → Int) : Prop where
  up : ∀ g n, Seen m k j g n → g.to ≤ t n.toNat
  src : ∀ n : Nat, t n = 0 ∨ ∃ g, Seen m k j g (n : Int) ∧ t n = g.to
  ok : NoClash (m.take k)
  now : ∀ g ∈ m.take k, ∀ n ∈ (m.getD k hd0).things.take j, n ∈ g.things → meetsZ g.frm g.to (m.getD k hd0).frm (m.getD k hd0).to = false
theorem getD_at {m : Tb} {k : Nat} (hk : k < m.length) : m.getD k hd0 = m[k] := by rw [List.getD, List.getElem?_eq_getElem hk]; rfl
theorem z_at {l : List Int} {j : Nat} (hj : j < l.length) : l.getD j 0 = l[j] := by rw [List.getD, List.getElem?_eq_getElem hj]; rfl
theorem z_mem {l : List Int} {j : Nat} (hj : j < l.length) : l.getD j 0 ∈ l := by rw [z_at hj]; exact List.getElem_mem hj
theorem till_zero (m : Tb) : Till m 0 0 (fun _ => 0) :=
  ⟨fun g n h => by rcases h with ⟨h, _⟩ | ⟨_, _, h⟩ <;> simp at h, fun _ => .inl rfl, by simp [NoClash], fun g h => by simp at h⟩
section
variable {m : Tb} {k j : Nat} {t : Nat → Int}
/-- a thing that is still held when the next one begins is held twice -/
theorem Till.bad (h : Till m k j t) (hm : ∀ x ∈ m, MayH x) (hs : m.Pairwise fun a b => a.frm ≤ b.frm) (hk : k < m.length) (hj : j < (m.getD k hd0).things.length) (hlt : (m.getD k hd0).frm < t ((m.getD k hd0).things.getD j 0).toNat) : ¬ NoClash m := by
  intro hc
  have hx := hm _ (List.getElem_mem hk)
  rw [← getD_at hk] at hx
  have hn : (m.getD k hd0).things.getD j 0 ∈ (m.getD k hd0).things := z_mem hj
  have hn0 := right_mem hx.2.1 _ hn
  rcases h.src ((m.getD k hd0).things.getD j 0).toNat with h0 | ⟨g, hg, ht⟩
  · have := hx.2.2.1; omega
  · rw [Int.toNat_of_nonneg hn0.1] at hg
    rcases hg with ⟨hg, hgn⟩ | ⟨_, hg, hgn⟩
    · obtain ⟨i, hi, rfl⟩ := List.getElem_of_mem hg
      have hil : i < m.length := by rw [List.length_take] at hi; omega
      rw [List.getElem_take] at *
      have hik : i < k := by rw [List.length_take] at hi; omega
      have h1 := List.pairwise_iff_getElem.1 hc i k hil hk hik
      have h2 := List.pairwise_iff_getElem.1 hs i k hil hk hik
      have hgm := hm _ (List.getElem_mem hil)
      rw [getD_at hk] at *
      have hcl : clashH m[i] m[k] = true := by
        unfold clashH
        rw [Bool.and_eq_true]
        refine ⟨?_, touch_iff.2 ⟨_, hgn, hn⟩⟩
        unfold meetsZ
        rw [decide_eq_true_eq]
        have a1 := hgm.2.2.2.1
        have a2 := hx.2.2.2.1
        omega
      rw [hcl] at h1
      cases h1
    · subst hg
      obtain ⟨i, hi, e⟩ := List.getElem_of_mem hgn
      rw [List.length_take] at hi
      rw [List.getElem_take] at e
      have hnd := right_nodup hx.2.1
      have hji : i < j := by omega
      rw [z_at hj] at e
      exact List.pairwise_iff_getElem.1 hnd i j (by omega) hj hji e
/-- a thing more -/
theorem Till.next (h : Till m k j t) (hm : ∀ x ∈ m, MayH x) (hk : k < m.length) (hj : j < (m.getD k hd0).things.length) (hge : ¬ (m.getD k hd0).frm < t ((m.getD k hd0).things.getD j 0).toNat) :
    Till m k (j + 1) (fun i => if i = ((m.getD k hd0).things.getD j 0).toNat then (m.getD k hd0).to else t i) := by
  have hx := hm _ (List.getElem_mem hk)
  rw [← getD_at hk] at hx
  obtain ⟨x, hxe⟩ : ∃ x, m.getD k hd0 = x := ⟨_, rfl⟩
  have hT : x.things.take (j + 1) = x.things.take j ++ [x.things.getD j 0] := by
    rw [hxe] at hj
    rw [List.take_succ_eq_append_getElem hj, z_at hj]
  have hn : x.things.getD j 0 ∈ x.things := by rw [hxe] at hj; exact z_mem hj
  have hS : ∀ g n, Seen m k (j + 1) g n ↔ Seen m k j g n ∨ (g = x ∧ n = x.things.getD j 0) := by
    intro g n
    unfold Seen
    constructor
    · rintro (h1 | ⟨_, h2, h3⟩)
      · exact .inl (.inl h1)
      · rw [hxe] at h2
        subst h2
        rw [hT, List.mem_append, List.mem_singleton] at h3
        rcases h3 with h3 | h3
        · exact .inl (.inr ⟨hk, hxe.symm, h3⟩)
        · exact .inr ⟨rfl, h3⟩
    · rintro ((h1 | ⟨_, h2, h3⟩) | ⟨h1, h2⟩)
      · exact .inl h1
      · refine .inr ⟨hk, h2, ?_⟩
        rw [hxe] at h2
        subst h2
        rw [hT]
        exact List.mem_append_left _ h3
      · subst h1
        refine .inr ⟨hk, hxe.symm, ?_⟩
        rw [hT, h2]
        exact List.mem_append_right _ (List.mem_singleton.2 rfl)
  have hpos : ∀ g n, Seen m k j g n → 0 ≤ n := by
    rintro g n (⟨h1, h2⟩ | ⟨_, h1, h2⟩)
    · exact (right_mem (hm g (List.mem_of_mem_take h1)).2.1 n h2).1
    · rw [h1, hxe] at h2
      rw [hxe] at hx
      exact (right_mem hx.2.1 n (List.mem_of_mem_take h2)).1
  rw [hxe] at hx hge ⊢
  have hn0 := (right_mem hx.2.1 _ hn).1
  refine ⟨fun g n hg => ?_, fun n => ?_, h.ok, fun g hg n hnm hgn => ?_⟩
  · show g.to ≤ if n.toNat = _ then x.to else t n.toNat
    rcases (hS g n).1 hg with h1 | ⟨h1, h2⟩
    · have h3 := h.up g n h1
      split
      · rename_i e
        rw [e] at h3
        have := hx.2.2.2.1
        omega
      · exact h3
    · subst h1 h2
      rw [if_pos rfl]
      exact Int.le_refl _
  · show (if n = _ then x.to else t n) = 0 ∨ ∃ g, Seen m k (j + 1) g (n : Int) ∧ (if n = _ then x.to else t n) = g.to
    split
    · rename_i e
      refine .inr ⟨x, (hS x n).2 (.inr ⟨rfl, ?_⟩), rfl⟩
      rw [e, Int.toNat_of_nonneg hn0]
    · rcases h.src n with h1 | ⟨g, h1, h2⟩
      · exact .inl h1
      · exact .inr ⟨g, (hS g n).2 (.inl h1), h2⟩
  · rw [hxe] at hnm ⊢
    rw [hT, List.mem_append, List.mem_singleton] at hnm
    rcases hnm with h1 | h1
    · have := h.now g hg n (by rw [hxe]; exact h1) hgn
      rwa [hxe] at this
    · have h2 := h.up g n (.inl ⟨hg, hgn⟩)
      rw [h1] at h2
      unfold meetsZ
      rw [decide_eq_false_iff_not]
      omega
/-- a holding more -/
theorem Till.step (h : Till m k j t) (hk : k < m.length) (hj : (m.getD k hd0).things.length ≤ j) : Till m (k + 1) 0 t := by
  have e := getD_at hk
  have hS : ∀ g n, Seen m (k + 1) 0 g n ↔ Seen m k j g n := by
    intro g n
    unfold Seen
    rw [List.take_succ_eq_append_getElem hk, ← e]
    constructor
    · rintro (⟨h1, h2⟩ | ⟨_, _, h3⟩)
      · rcases List.mem_append.1 h1 with h1 | h1
        · exact .inl ⟨h1, h2⟩
        · rw [List.mem_singleton] at h1
          refine .inr ⟨hk, h1, ?_⟩
          rw [List.take_of_length_le (by rw [h1]; exact hj)]
          exact h2
      · simp at h3
    · rintro (⟨h1, h2⟩ | ⟨_, h1, h3⟩)
      · exact .inl ⟨List.mem_append_left _ h1, h2⟩
      · exact .inl ⟨List.mem_append_right _ (List.mem_singleton.2 h1), List.mem_of_mem_take h3⟩
  refine ⟨fun g n hg => h.up g n ((hS g n).1 hg), fun n => (h.src n).imp id fun ⟨g, h1, h2⟩ => ⟨g, (hS g n).2 h1, h2⟩, ?_, fun g _ n hn => by simp at hn⟩
  unfold NoClash
  rw [List.take_succ_eq_append_getElem hk, ← e, List.pairwise_append]
  refine ⟨h.ok, List.pairwise_singleton _ _, fun g hg x hx => ?_⟩
  rw [List.mem_singleton] at hx
  subst hx
  refine Bool.eq_false_iff.2 fun hc => ?_
  unfold clashH at hc
  rw [Bool.and_eq_true] at hc
  obtain ⟨n, h1, h2⟩ := touch_iff.1 hc.2
  have := h.now g hg n (by rw [List.take_of_length_le hj]; exact h2) h1
  rw [this] at hc
  cases hc.1
theorem Till.all (h : Till m k 0 t) (hk : m.length ≤ k) : NoClash m := by
  have := h.ok
  rwa [List.take_of_length_le hk] at this
end
/-- may each holding be, and rise the numbers -/
structure RiseH (l : Tb) (i : Nat) : Prop where
  may : ∀ x ∈ l.take i, MayH x
  ids : (l.take i).Pairwise fun a b => a.id < b.id
theorem rise_zero (l : Tb) : RiseH l 0 := ⟨fun x h => by simp at h, by simp⟩
theorem RiseH.next {l : Tb} {i : Nat} (h : RiseH l i) (hi : i < l.length) (h1 : MayH (l.getD i hd0)) (h2 : 0 < i → (l.getD (i - 1) hd0).id < (l.getD i hd0).id) : RiseH l (i + 1) := by
  rw [getD_at hi] at h1 h2
  refine ⟨fun x hx => ?_, ?_⟩
  · rw [List.take_succ_eq_append_getElem hi, List.mem_append, List.mem_singleton] at hx
    rcases hx with e | e
    · exact h.may x e
    · subst e; exact h1
  · rw [List.take_succ_eq_append_getElem hi, List.pairwise_append]
    refine ⟨h.ids, List.pairwise_singleton _ _, fun x hx y hy => ?_⟩
    rw [List.mem_singleton] at hy
    subst hy
    obtain ⟨q, hq, rfl⟩ := List.getElem_of_mem hx
    rw [List.length_take] at hq
    have h3 := h2 (by omega)
    rw [getD_at (show i - 1 < l.length by omega)] at h3
    by_cases e : q = i - 1
    · subst e; rw [List.getElem_take]; exact h3
    · have h4 := List.pairwise_iff_getElem.1 h.ids q (i - 1) (by rw [List.length_take]; omega) (by rw [List.length_take]; omega) (by omega)
      rw [List.getElem_take] at h4 ⊢
      rw [List.getElem_take] at h4
      omega
theorem RiseH.bad_may {l : Tb} {i : Nat} (hi : i < l.length) (h : mayH (l.getD i hd0) = false) : rightT l = false := by
  refine Bool.eq_false_iff.2 fun hr => ?_
  have := (rightT_is.1 hr).may _ (List.getElem_mem hi)
  rw [getD_at hi] at h
  exact absurd this (of_decide_eq_false h)
theorem RiseH.bad_id {l : Tb} {i : Nat} (hi : i < l.length) (h0 : 0 < i) (h : (l.getD i hd0).id ≤ (l.getD (i - 1) hd0).id) : rightT l = false := by
  refine Bool.eq_false_iff.2 fun hr => ?_
  have := List.pairwise_iff_getElem.1 (rightT_is.1 hr).row (i - 1) i (by omega) hi (by omega)
  rw [getD_at hi, getD_at (show i - 1 < l.length by omega)] at h
  have := this.1
  omega
theorem RiseH.end {l : Tb} (h : RiseH l l.length) (h256 : l.length ≤ 256) : rightT l = !twiceB l := by
  unfold twiceB
  rw [Bool.not_not, Bool.eq_iff_iff, rightT_is, decide_eq_true_eq]
  have e : l.take l.length = l := List.take_length
  have hm := h.may
  have hi := h.ids
  rw [e] at hm hi
  constructor
  · intro hr
    exact hr.row.imp fun h => h.2
  · intro hc
    exact ⟨h256, hm, (hi.and hc)⟩

end Go.Proofs.YtpoalgkgomljmaaGreatDoor

namespace Go.Proofs.YtpoalgkgomljmaaGreatDoor
open Go.RowKit

/-- one before the other: -1, 0, 1 -/
def hcmpZ (a b : Int) : Int := if a < b then -1 else if b < a then 1 else 0
theorem cmpZ_lt (a b : Int) : decide (hcmpZ a b < 0) = decide (a < b) := by
  unfold hcmpZ
  by_cases h1 : a < b
  · simp [h1]
  · by_cases h2 : b < a <;> simp [h1, h2]
theorem cmpZ_eq {a b : Int} : hcmpZ a b = 0 ↔ a = b := by
  unfold hcmpZ
  by_cases h1 : a < b
  · simp [h1]; omega
  · by_cases h2 : b < a <;> simp [h1, h2] <;> omega
theorem compare_any (a b : Int) (w : World) : Calls Tryz.prog 83 #[.int .i64 a, .int .i64 b] w fun e w' => e = .returned (.int .i64 (hcmpZ a b)) ∧ w' = w := by
  by_cases h1 : a < b
  · have e : Hid (hcmpZ a b = -1) := Lib.hid (by unfold hcmpZ; rw [if_pos h1])
    go_enter Tryz.func83, Tryz.ntmps83
    go_wp2
    go_ret
    exact ⟨by rw [e.out]; rfl, rfl⟩
  · by_cases h2 : b < a
    · have e : Hid (hcmpZ a b = 1) := Lib.hid (by unfold hcmpZ; rw [if_neg h1, if_pos h2])
      go_enter Tryz.func83, Tryz.ntmps83
      go_wp2
      go_ret
      exact ⟨by rw [e.out]; rfl, rfl⟩
    · have e : Hid (hcmpZ a b = 0) := Lib.hid (by unfold hcmpZ; rw [if_neg h1, if_neg h2])
      go_enter Tryz.func83, Tryz.ntmps83
      go_wp2
      go_ret
      exact ⟨by rw [e.out]; rfl, rfl⟩
set_option maxHeartbeats 1000000 in
theorem find1_any (x : Hd) (A : Option Addr) (m c : Nat) (id : Int) (W : World) : Calls Tryz.prog 82 #[.agg #[.int .i64 x.id, .slice A m c, .int .i64 x.frm, .int .i64 x.to], .int .i64 id] W fun e w' => e = .returned (.int .i64 (hcmpZ x.id id)) ∧ Below W.heap.size W w' := by
  have hcon := fun W' => compare_any x.id id W'
  obtain ⟨r, hr⟩ : ∃ r, hcmpZ x.id id = r := ⟨_, rfl⟩
  rw [hr] at hcon ⊢
  go_enter Tryz.func82, Tryz.ntmps82
  go_wp2_with (go_at_call 83; refine (hcon _).mono ?_; rintro e w' ⟨rfl, rfl⟩)
  go_ret
  exact ⟨rfl, (Below.refl _ _).alloc (Nat.le_refl _) _⟩

/-- where a number stands, or would stand -/
structure Stands (l : Tb) (id : Int) (K : Nat) : Prop where
  le : K ≤ l.length
  low : ∀ q, q < K → (l.getD q hd0).id < id
  high : ∀ q, K ≤ q → q < l.length → id ≤ (l.getD q hd0).id
def hereB (l : Tb) (id : Int) (K : Nat) : Bool := decide (K < l.length) && decide ((l.getD K hd0).id = id)

set_option maxHeartbeats 8000000 in
set_option maxRecDepth 100000 in
theorem binary_any (A : Option Addr) (n c : Nat) (l : Tb) (id : Int) (w : World) (hr : RT w w.heap.size A n l) (hn : n ≤ 1000) (hi : l.Pairwise fun a b => a.id < b.id) :
    Calls Tryz.prog 81 #[.slice A n c, .int .i64 id, .func (.func 82) #[] #[]] w fun e w' => (∃ K : Nat, e = .returned (.tuple #[.int .i64 K, .bool (hereB l id K)]) ∧ Stands l id K) ∧ Below w.heap.size w w' := by
  have HR := Lib.hid hr
  have HL := Lib.hid hr.len
  have HI : Hid (∀ q r, q < r → r < n → (l.getD q hd0).id < (l.getD r hd0).id) := Lib.hid (fun q r h1 h2 => by
    have h3 := List.pairwise_iff_getElem.1 hi q r (by rw [hr.len]; omega) (by rw [hr.len]; omega) h1
    rwa [← getD_at, ← getD_at] at h3)
  have eg : ∀ args w, (callFunc 82 args).run Tryz.prog w = .ok (.enter 82 args) w := Go.Proofs.enters_of Tryz.func82 (by kernel_rfl) rfl
  clear hr hi
  go_enter Tryz.func81, Tryz.ntmps81
  go_wp2
  go_loopg [9, 10] n (fun kx s5 s6 wr => ∃ (lo hi : Nat), s5 = .int .i64 lo ∧ s6 = .int .i64 hi ∧ lo ≤ hi ∧ hi ≤ n ∧ (∀ q, q < lo → (l.getD q hd0).id < id) ∧ (∀ q, hi ≤ q → q < n → id ≤ (l.getD q hd0).id) ∧ hi - lo ≤ kx ∧ Below w.heap.size w wr)
  case atStart => exact ⟨0, n, rfl, rfl, Nat.zero_le _, Nat.le_refl _, fun q h => absurd h (by omega), fun q h1 h2 => absurd h1 (by omega), by omega, Below.refl _ _⟩
  case round =>
    obtain ⟨lo, hi, rfl, rfl, hlh, hin, hlow, hhigh, hg, hbel⟩ := hrel
    have HLOW := Lib.hid hlow
    have HHIGH := Lib.hid hhigh
    have HB := Lib.hid hbel
    have HRw := Lib.hid (HR.out.next hbel)
    clear hlow hhigh hbel
    by_cases hlt : lo < hi
    · obtain ⟨h, hh⟩ : ∃ h : Nat, (lo + hi) / 2 = h := ⟨_, rfl⟩
      have hh1 : lo ≤ h ∧ h < hi := by omega
      have e1 : ((lo : Int) + (hi : Int)) / 2 = (h : Int) := by omega
      have hhn : h < n := by omega
      have hhz : (h : Int) < (n : Int) := by omega
      obtain ⟨b, off, A2, m2, c2, rfl, hbl, c0, c1', c2', c3', hx⟩ := HRw.out.one hhn
      obtain ⟨x, hxx⟩ : ∃ x, l.getD h hd0 = x := ⟨_, rfl⟩
      rw [hxx] at c0 c2' c3'
      have hcx := cmpZ_lt x.id id
      have HC := Lib.hid (fun W => find1_any x A2 m2 c2 id W)
      obtain ⟨r, hrr⟩ : ∃ r, hcmpZ x.id id = r := ⟨_, rfl⟩
      rw [hrr] at hcx
      have HC' : Hid (∀ W, Calls Tryz.prog 82 #[.agg #[.int .i64 x.id, .slice A2 m2 c2, .int .i64 x.frm, .int .i64 x.to], .int .i64 id] W fun e w' => e = .returned (.int .i64 r) ∧ Below W.heap.size W w') := Lib.hid (fun W => by have := HC.out W; rwa [hrr] at this)
      have HXX := Lib.hid hxx
      clear hx hbl hrr HC hxx hh
      by_cases hlo : x.id < id
      · rw [decide_eq_true hlo] at hcx
        have HN : Hid (∀ q, q < h + 1 → (l.getD q hd0).id < id) := Lib.hid (fun q hq => by
          by_cases e : q = h
          · subst e; rw [HXX.out]; exact hlo
          · have := HI.out q h (by omega) hhn
            rw [HXX.out] at this
            omega)
        clear hlo
        go_wp2_with fail
        refine (HC'.out _).mono ?_
        rintro e w5 ⟨rfl, hb⟩
        have HB5 := Lib.hid (HB.out.trans (hb.mono HB.out.size))
        clear hb c0 c1' c2' c3'
        go_wp2
        go_roundg (hi - (h + 1))
        case measure => omega
        case rel => exact ⟨h + 1, hi, by go_num, rfl, by omega, hin, HN.out, HHIGH.out, Nat.le_refl _, HB5.out⟩
      · rw [decide_eq_false hlo] at hcx
        have HN : Hid (∀ q, h ≤ q → q < n → id ≤ (l.getD q hd0).id) := Lib.hid (fun q hq hqn => by
          by_cases e : q = h
          · subst e; rw [HXX.out]; omega
          · have := HI.out h q (by omega) hqn
            rw [HXX.out] at this
            omega)
        clear hlo
        go_wp2_with fail
        refine (HC'.out _).mono ?_
        rintro e w5 ⟨rfl, hb⟩
        have HB5 := Lib.hid (HB.out.trans (hb.mono HB.out.size))
        clear hb c0 c1' c2' c3'
        go_wp2
        go_roundg (h - lo)
        case measure => omega
        case rel => exact ⟨lo, h, rfl, rfl, by omega, by omega, HLOW.out, HN.out, Nat.le_refl _, HB5.out⟩
    · obtain rfl : hi = lo := by omega
      have HST : Hid (Stands l id hi) := Lib.hid ⟨by rw [HL.out]; exact hin, HLOW.out, fun q h1 h2 => HHIGH.out q h1 (by rw [← HL.out]; exact h2)⟩
      by_cases hn2 : hi < n
      · have d1 : decide (hi < n) = true := decide_eq_true hn2
        obtain ⟨b, off, A2, m2, c2, rfl, hbl, c0, c1', c2', c3', hx⟩ := HRw.out.one hn2
        obtain ⟨x, hxx⟩ : ∃ x, l.getD hi hd0 = x := ⟨_, rfl⟩
        rw [hxx] at c0 c2' c3'
        have hcx : (hcmpZ x.id id == 0) = decide (x.id = id) := by
          by_cases e : x.id = id
          · rw [decide_eq_true e, cmpZ_eq.2 e]; rfl
          · rw [decide_eq_false e]; exact beq_eq_false_iff_ne.2 (fun h => e (cmpZ_eq.1 h))
        have HH : Hid (hereB l id hi = decide (x.id = id)) := Lib.hid (by unfold hereB; rw [HL.out, d1, hxx, Bool.true_and])
        have HC := Lib.hid (fun W => find1_any x A2 m2 c2 id W)
        obtain ⟨r, hrr⟩ : ∃ r, hcmpZ x.id id = r := ⟨_, rfl⟩
        rw [hrr] at hcx
        have HC' : Hid (∀ W, Calls Tryz.prog 82 #[.agg #[.int .i64 x.id, .slice A2 m2 c2, .int .i64 x.frm, .int .i64 x.to], .int .i64 id] W fun e w' => e = .returned (.int .i64 r) ∧ Below W.heap.size W w') := Lib.hid (fun W => by have := HC.out W; rwa [hrr] at this)
        obtain ⟨v, hv⟩ : ∃ v, decide (x.id = id) = v := ⟨_, rfl⟩
        rw [hv] at hcx HH
        clear hx hbl hrr HC hxx hv
        go_wp2_with fail
        refine (HC'.out _).mono ?_
        rintro e w5 ⟨rfl, hb⟩
        have HB5 := Lib.hid (HB.out.trans (hb.mono HB.out.size))
        clear hb c0 c1' c2' c3'
        go_wp2
        go_ret2
        exact ⟨⟨hi, by rw [HH.out]; rfl, HST.out⟩, HB5.out⟩
      · have d1 : decide (hi < n) = false := decide_eq_false hn2
        have HH : Hid (hereB l id hi = false) := Lib.hid (by unfold hereB; rw [HL.out, d1, Bool.false_and])
        go_wp2
        go_ret2
        exact ⟨⟨hi, by rw [HH.out]; rfl, HST.out⟩, HB.out⟩

set_option maxHeartbeats 1000000 in
theorem hfind_any (A : Option Addr) (n c : Nat) (l : Tb) (id : Int) (w : World) (hr : RT w w.heap.size A n l) (hn : n ≤ 1000) (hi : l.Pairwise fun a b => a.id < b.id) :
    Calls Tryz.prog 51 #[.slice A n c, .int .i64 id] w fun e w' => (∃ K : Nat, e = .returned (.tuple #[.int .i64 K, .bool (hereB l id K)]) ∧ Stands l id K) ∧ Below w.heap.size w w' := by
  have HC := Lib.hid (binary_any A n c l id w hr hn hi)
  clear hr hi
  go_enter Tryz.func51, Tryz.ntmps51
  go_wp2_with fail
  refine HC.out.mono ?_
  rintro e w1 ⟨⟨K, rfl, hK⟩, hb⟩
  have HK := Lib.hid hK
  have HB := Lib.hid hb
  clear hK hb
  go_wp2
  go_ret2
  exact ⟨⟨K, rfl, HK.out⟩, HB.out⟩

end Go.Proofs.YtpoalgkgomljmaaGreatDoor

namespace Go.Proofs.YtpoalgkgomljmaaGreatDoor
open Go.RowKit

section
variable {l : Tb} {id z : Int} {K : Nat} {h : Hd}
theorem ids_lt (hi : l.Pairwise fun a b => a.id < b.id) {q r : Nat} (h1 : q < r) (h2 : r < l.length) : (l.getD q hd0).id < (l.getD r hd0).id := by
  have h3 := List.pairwise_iff_getElem.1 hi q r (by omega) h2 h1
  rwa [← getD_at, ← getD_at] at h3
theorem here_has (hi : l.Pairwise fun a b => a.id < b.id) (hs : Stands l id K) : hereB l id K = hasT l id := by
  unfold hereB
  rw [Bool.eq_iff_iff, Bool.and_eq_true, decide_eq_true_eq, decide_eq_true_eq, has_iff_id]
  constructor
  · rintro ⟨h1, h2⟩
    exact ⟨_, List.getElem_mem h1, by rw [← getD_at h1]; exact h2⟩
  · rintro ⟨x, hx, e⟩
    obtain ⟨q, hq, rfl⟩ := List.getElem_of_mem hx
    rw [← getD_at hq] at e
    have h1 : K ≤ q := by
      rcases Nat.lt_or_ge q K with h' | h'
      · have := hs.low q h'; omega
      · exact h'
    have hK : K < l.length := by omega
    refine ⟨hK, ?_⟩
    rcases Nat.eq_or_lt_of_le h1 with e1 | e1
    · subst e1; exact e
    · have h2 := hs.high K (Nat.le_refl _) hK
      have h3 := ids_lt hi e1 hq
      omega
theorem take_low (hs : Stands l id K) : ∀ x ∈ l.take K, x.id < id := by
  intro x hx
  obtain ⟨q, hq, rfl⟩ := List.getElem_of_mem hx
  rw [List.length_take] at hq
  have := hs.low q (by omega)
  rw [getD_at (show q < l.length by omega)] at this
  rwa [List.getElem_take]
theorem drop_high (hs : Stands l id K) (hn : ∀ x ∈ l, x.id ≠ id) : ∀ x ∈ l.drop K, id < x.id := by
  intro x hx
  have hm := hn x (List.mem_of_mem_drop hx)
  obtain ⟨q, hq, rfl⟩ := List.getElem_of_mem hx
  rw [List.length_drop] at hq
  rw [List.getElem_drop] at hm ⊢
  have := hs.high (K + q) (by omega) (by omega)
  rw [getD_at (show K + q < l.length by omega)] at this
  omega
theorem ins_at (hs : Stands l h.id K) (hn : ∀ x ∈ l, x.id ≠ h.id) : insT l h = l.take K ++ h :: l.drop K := by
  unfold insT
  have hl := take_low hs
  have hd := drop_high hs hn
  conv => lhs; rw [← List.take_append_drop K l]
  rw [List.filter_append, List.filter_append]
  rw [List.filter_eq_self.2 (fun x hx => decide_eq_true (hl x hx)), List.filter_eq_nil_iff.2 (fun x hx => by have := hd x hx; rw [decide_eq_true_eq]; omega), List.append_nil,
    List.filter_eq_nil_iff.2 (fun x hx => by have := hl x hx; rw [decide_eq_true_eq]; omega), List.nil_append, List.filter_eq_self.2 (fun x hx => decide_eq_true (hd x hx))]
theorem here_facts (hh : hereB l id K = true) : K < l.length ∧ (l.getD K hd0).id = id := by
  unfold hereB at hh
  rw [Bool.and_eq_true, decide_eq_true_eq, decide_eq_true_eq] at hh
  exact hh
theorem after_high (hi : l.Pairwise fun a b => a.id < b.id) (hh : hereB l id K = true) : ∀ x ∈ l.drop (K + 1), id < x.id := by
  obtain ⟨hK, e⟩ := here_facts hh
  intro x hx
  obtain ⟨q, hq, rfl⟩ := List.getElem_of_mem hx
  rw [List.length_drop] at hq
  rw [List.getElem_drop]
  have := ids_lt hi (show K < K + 1 + q by omega) (by omega)
  rw [getD_at (show K + 1 + q < l.length by omega)] at this
  omega
theorem split_at (hK : K < l.length) : l = l.take K ++ (l.getD K hd0 :: l.drop (K + 1)) := by
  rw [getD_at hK, ← List.drop_eq_getElem_cons hK, List.take_append_drop]
theorem drop_at (hi : l.Pairwise fun a b => a.id < b.id) (hs : Stands l id K) (hh : hereB l id K = true) : l.filter (fun x => x.id != id) = l.take K ++ l.drop (K + 1) := by
  obtain ⟨hK, e⟩ := here_facts hh
  have hl := take_low hs
  have hd := after_high hi hh
  conv => lhs; rw [split_at hK]
  rw [List.filter_append, List.filter_cons, if_neg (by rw [e]; simp), List.filter_eq_self.2 (fun x hx => bne_iff_ne.2 (by have := hl x hx; omega)), List.filter_eq_self.2 (fun x hx => bne_iff_ne.2 (by have := hd x hx; omega))]
theorem cut_at (hi : l.Pairwise fun a b => a.id < b.id) (hs : Stands l id K) (hh : hereB l id K = true) : l.map (shortH id z) = l.set K ⟨(l.getD K hd0).id, (l.getD K hd0).things, (l.getD K hd0).frm, z⟩ := by
  obtain ⟨hK, e⟩ := here_facts hh
  have hl := take_low hs
  have hd := after_high hi hh
  conv => lhs; rw [split_at hK]
  rw [List.map_append, List.map_cons]
  rw [List.map_congr_left (l := l.take K) (g := fun x => x) (fun x hx => by unfold shortH; rw [if_neg (by have := hl x hx; omega)]), List.map_congr_left (l := l.drop (K + 1)) (g := fun x => x) (fun x hx => by unfold shortH; rw [if_neg (by have := hd x hx; omega)]), List.map_id', List.map_id', show shortH id z (l.getD K hd0) = ⟨(l.getD K hd0).id, (l.getD K hd0).things, (l.getD K hd0).frm, z⟩ by unfold shortH; rw [if_pos e]]
  obtain ⟨y, hy⟩ : ∃ y : Hd, (⟨(l.getD K hd0).id, (l.getD K hd0).things, (l.getD K hd0).frm, z⟩ : Hd) = y := ⟨_, rfl⟩
  rw [hy]
  rw [List.set_eq_take_append_cons_drop, if_pos hK]
theorem get_at (hr : rightT l = true) (hh : hereB l id K = true) : getT l id = l.getD K hd0 := by
  obtain ⟨hK, e⟩ := here_facts hh
  rw [← e]
  exact get_is hr (by rw [getD_at hK]; exact List.getElem_mem hK)
end
section
variable {base : Nat} {w w6 w7 : World} {v v' : Value} {l l' : Tb} {n : Nat} {fl' : List Value}
/-- a row behind an Insert or a Delete, as a table -/
theorem ins_on (hb : Below w.heap.size w w6) (hq : w7.ownsRow w.heap.size 51 4 v' n fl') (h2 : Below w.heap.size w6 w7) (hk : Keeps w6 v w7 v') (hl : l'.length = n)
    (hE : ∀ j x, l'[j]? = some x → EH w6 (fun b => b < w6.heap.size ∧ v.ownBlock ≠ some b) x ((fl'.drop (j * 4)).take 4)) : ON EH 4 51 w v' l' w7 := by
  refine ⟨fl', by rw [hl]; exact hq, hb.trans h2, fun j x hx => eh_steady.keep (hE j x hx) (fun b hb => hk.block b hb.1 hb.2) (fun b hb => ⟨Nat.lt_of_lt_of_le hb.1 hk.size, fun e => ?_⟩)⟩
  rcases hk.own with h' | h'
  · exact hb.2 (h'.symm.trans e)
  · have := h' b e; omega
theorem take_flat {fl : List Value} {i j : Nat} (h : j < i) : ((fl.take (i * 4)).drop (j * 4)).take 4 = (fl.drop (j * 4)).take 4 := by
  rw [List.drop_take, List.take_take, Nat.min_eq_left (by omega)]
theorem ins_cells {fl : List Value} {v0 v1 v2 v3 : Value} {h : Hd} {K : Nat} {ok : Nat → Prop} (hfl : fl.length = l.length * 4) (hK : K ≤ l.length) (hE : ∀ j x, l[j]? = some x → EH w6 ok x ((fl.drop (j * 4)).take 4)) (hh : EH w6 ok h [v0, v1, v2, v3]) :
    ∀ j x, (l.take K ++ h :: l.drop K)[j]? = some x → EH w6 ok x (((fl.take (K * 4) ++ ([v0, v1, v2, v3] ++ fl.drop (K * 4))).drop (j * 4)).take 4) := by
  intro j x hx
  have hlt : (l.take K).length = K := by rw [List.length_take]; omega
  have hft : (fl.take (K * 4)).length = K * 4 := by rw [List.length_take, hfl]; omega
  rcases Nat.lt_trichotomy j K with hj | hj | hj
  · rw [List.getElem?_append_left (by omega), List.getElem?_take_of_lt hj] at hx
    have e : ((fl.take (K * 4) ++ ([v0, v1, v2, v3] ++ fl.drop (K * 4))).drop (j * 4)).take 4 = (fl.drop (j * 4)).take 4 := by
      rw [List.drop_append_of_le_length (by omega), List.take_append_of_le_length (by rw [List.length_drop]; omega), take_flat hj]
    rw [e]
    exact hE j x hx
  · subst hj
    rw [List.getElem?_append_right (by omega), hlt, Nat.sub_self] at hx
    have hx' : h = x := by simpa using hx
    subst hx'
    have e : ((fl.take (j * 4) ++ ([v0, v1, v2, v3] ++ fl.drop (j * 4))).drop (j * 4)).take 4 = [v0, v1, v2, v3] := by
      rw [List.drop_append_of_le_length (by omega), List.drop_of_length_le (by omega), List.nil_append]
      rfl
    rw [e]
    exact hh
  · rw [List.getElem?_append_right (by omega), hlt] at hx
    obtain ⟨d, rfl⟩ : ∃ d, j = K + 1 + d := ⟨j - (K + 1), by omega⟩
    rw [show K + 1 + d - K = d + 1 by omega, List.getElem?_cons_succ, List.getElem?_drop] at hx
    have e : ((fl.take (K * 4) ++ ([v0, v1, v2, v3] ++ fl.drop (K * 4))).drop ((K + 1 + d) * 4)).take 4 = (fl.drop ((K + d) * 4)).take 4 := by
      rw [List.drop_append, List.drop_of_length_le (by omega), List.nil_append, hft, List.drop_append, List.drop_of_length_le (by show 4 ≤ _; omega), List.nil_append, List.drop_drop]
      congr 2
      show K * 4 + ((K + 1 + d) * 4 - K * 4 - 4) = (K + d) * 4
      omega
    rw [e]
    exact hE (K + d) x hx
theorem del_cells {fl : List Value} {K : Nat} {ok : Nat → Prop} (hfl : fl.length = l.length * 4) (hK : K < l.length) (hE : ∀ j x, l[j]? = some x → EH w6 ok x ((fl.drop (j * 4)).take 4)) :
    ∀ j x, (l.take K ++ l.drop (K + 1))[j]? = some x → EH w6 ok x (((fl.take (K * 4) ++ fl.drop ((K + 1) * 4)).drop (j * 4)).take 4) := by
  intro j x hx
  have hlt : (l.take K).length = K := by rw [List.length_take]; omega
  have hft : (fl.take (K * 4)).length = K * 4 := by rw [List.length_take, hfl]; omega
  rcases Nat.lt_or_ge j K with hj | hj
  · rw [List.getElem?_append_left (by omega), List.getElem?_take_of_lt hj] at hx
    have e : ((fl.take (K * 4) ++ fl.drop ((K + 1) * 4)).drop (j * 4)).take 4 = (fl.drop (j * 4)).take 4 := by
      rw [List.drop_append_of_le_length (by omega), List.take_append_of_le_length (by rw [List.length_drop]; omega), take_flat hj]
    rw [e]
    exact hE j x hx
  · rw [List.getElem?_append_right (by omega), hlt, List.getElem?_drop] at hx
    have e : ((fl.take (K * 4) ++ fl.drop ((K + 1) * 4)).drop (j * 4)).take 4 = (fl.drop ((K + 1 + (j - K)) * 4)).take 4 := by
      rw [List.drop_append, List.drop_of_length_le (by omega), List.nil_append, hft, List.drop_drop]
      congr 2
      omega
    rw [e]
    exact hE _ x hx
end

end Go.Proofs.YtpoalgkgomljmaaGreatDoor

namespace Go.Proofs
open Go.Shelf
open Go.RowKit
def Tryz.sortHeld_ren : Go.Shelf.Ren := ⟨fun | 6 => 116 | 14 => 132 | 15 => 69 | 20 => 134 | 21 => 135 | 22 => 136 | 23 => 137 | 24 => 138 | 25 => 139 | 26 => 140 | 27 => 141 | 28 => 103 | 29 => 104 | 46 => 142 | 47 => 123 | 48 => 124 | 49 => 143 | 50 => 144 | 57 => 145 | n => n, fun | 0 => 0 | 3 => 3 | 4 => 4 | 5 => 5 | 9 => 9 | 22 => 24 | 24 => 51 | 25 => 134 | 39 => 89 | 45 => 111 | 46 => 112 | 50 => 76 | 53 => 119 | 55 => 68 | 66 => 136 | 70 => 140 | 76 => 148 | 77 => 149 | n => n, fun | n => n⟩
theorem Tryz.sortHeld : Go.Proofs.SlLaysF0.n6 Tryz.prog Tryz.sortHeld_ren := {
  mixed := by kernel_rfl
  f6 := ⟨Tryz.f116.name, by decide, Tryz.func116.trans (congrArg some (by kernel_rfl))⟩
  f14 := ⟨Tryz.f132.name, by decide, Tryz.func132.trans (congrArg some (by kernel_rfl))⟩
  f15 := Tryz.func69.trans (congrArg some (by kernel_rfl))
  f20 := ⟨Tryz.f134.name, by decide, Tryz.func134.trans (congrArg some (by kernel_rfl))⟩
  f21 := ⟨Tryz.f135.name, by decide, Tryz.func135.trans (congrArg some (by kernel_rfl))⟩
  f22 := ⟨Tryz.f136.name, by decide, Tryz.func136.trans (congrArg some (by kernel_rfl))⟩
  f23 := ⟨Tryz.f137.name, by decide, Tryz.func137.trans (congrArg some (by kernel_rfl))⟩
  f24 := ⟨Tryz.f138.name, by decide, Tryz.func138.trans (congrArg some (by kernel_rfl))⟩
  f25 := ⟨Tryz.f139.name, by decide, Tryz.func139.trans (congrArg some (by kernel_rfl))⟩
  f26 := ⟨Tryz.f140.name, by decide, Tryz.func140.trans (congrArg some (by kernel_rfl))⟩
  f27 := ⟨Tryz.f141.name, by decide, Tryz.func141.trans (congrArg some (by kernel_rfl))⟩
  f28 := Tryz.func103.trans (congrArg some (by kernel_rfl))
  f29 := Tryz.func104.trans (congrArg some (by kernel_rfl))
  f46 := ⟨Tryz.f142.name, by decide, Tryz.func142.trans (congrArg some (by kernel_rfl))⟩
  f47 := Tryz.func123.trans (congrArg some (by kernel_rfl))
  f48 := Tryz.func124.trans (congrArg some (by kernel_rfl))
  f49 := ⟨Tryz.f143.name, by decide, Tryz.func143.trans (congrArg some (by kernel_rfl))⟩
  f50 := ⟨Tryz.f144.name, by decide, Tryz.func144.trans (congrArg some (by kernel_rfl))⟩
  f57 := ⟨Tryz.f145.name, by decide, Tryz.func145.trans (congrArg some (by kernel_rfl))⟩
  t0 := Tryz.underlying0
  a0 := Tryz.isAgg0
  z0 := Tryz.sizeOf0
  v0 := Tryz.zeroValue0
  t3 := Tryz.underlying3
  a3 := Tryz.isAgg3
  z3 := Tryz.sizeOf3
  v3 := Tryz.zeroValue3
  t4 := Tryz.underlying4
  a4 := Tryz.isAgg4
  z4 := Tryz.sizeOf4
  v4 := Tryz.zeroValue4
  t5 := Tryz.underlying5
  a5 := Tryz.isAgg5
  z5 := Tryz.sizeOf5
  v5 := Tryz.zeroValue5
  t9 := Tryz.underlying9
  a9 := Tryz.isAgg9
  z9 := Tryz.sizeOf9
  v9 := Tryz.zeroValue9
  t22 := Tryz.underlying24
  a22 := Tryz.isAgg24
  z22 := Tryz.sizeOf24
  v22 := Tryz.zeroValue24
  t25 := Tryz.underlying134
  a25 := Tryz.isAgg134
  z25 := Tryz.sizeOf134
  v25 := Tryz.zeroValue134
  t39 := Tryz.underlying89
  a39 := Tryz.isAgg89
  z39 := Tryz.sizeOf89
  v39 := Tryz.zeroValue89
  t45 := Tryz.underlying111
  a45 := Tryz.isAgg111
  z45 := Tryz.sizeOf111
  v45 := Tryz.zeroValue111
  t46 := Tryz.underlying112
  a46 := Tryz.isAgg112
  z46 := Tryz.sizeOf112
  v46 := Tryz.zeroValue112
  t50 := Tryz.underlying76
  a50 := Tryz.isAgg76
  z50 := Tryz.sizeOf76
  v50 := Tryz.zeroValue76
  t53 := Tryz.underlying119
  a53 := Tryz.isAgg119
  z53 := Tryz.sizeOf119
  v53 := Tryz.zeroValue119
  t55 := Tryz.underlying68
  a55 := Tryz.isAgg68
  z55 := Tryz.sizeOf68
  v55 := Tryz.zeroValue68
  t66 := Tryz.underlying136
  a66 := Tryz.isAgg136
  z66 := Tryz.sizeOf136
  v66 := Tryz.zeroValue136
  t70 := Tryz.underlying140
  a70 := Tryz.isAgg140
  z70 := Tryz.sizeOf140
  v70 := Tryz.zeroValue140
  t76 := Tryz.underlying148
  a76 := Tryz.isAgg148
  z76 := Tryz.sizeOf148
  v76 := Tryz.zeroValue148
  t77 := Tryz.underlying149
  a77 := Tryz.isAgg149
  z77 := Tryz.sizeOf149
  v77 := Tryz.zeroValue149
}

end Go.Proofs
