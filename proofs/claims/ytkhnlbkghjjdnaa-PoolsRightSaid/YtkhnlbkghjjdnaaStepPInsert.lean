/- slices.Clone and slices.Insert of steps (the library's own text): Insert into a row that the caller owns: there is room or not, at the end or ahead of it. -/
import Derived.Test.YtkhnlbkghjjdnaaStepPA
import Derived.Test.YtkhnlbkghjjdnaaCopyN
import Derived.Lib.Overlaps
import Derived.Lib.AppendZerosOnto
import Derived.Deep.RegionLaw
import Derived.Laws.NewBlocks
import Derived.IntWalk
namespace Go.Proofs.Ytkhnlbkghjjdnaa
open Go.RowKit

theorem sCells_take : ∀ (p : List (Int × Int)) (i : Nat), (sCells p).take (i * 2) = sCells (p.take i)
  | [], i => by simp [sCells]
  | s :: r, 0 => rfl
  | s :: r, i + 1 => by
    rw [show (i + 1) * 2 = i * 2 + 1 + 1 by omega]
    simp only [sCells, List.take_succ_cons]
    rw [sCells_take r i]
theorem sCells_drop : ∀ (p : List (Int × Int)) (i : Nat), (sCells p).drop (i * 2) = sCells (p.drop i)
  | [], i => by simp [sCells]
  | s :: r, 0 => rfl
  | s :: r, i + 1 => by
    rw [show (i + 1) * 2 = i * 2 + 1 + 1 by omega]
    simp only [sCells, List.drop_succ_cons]
    rw [sCells_drop r i]
theorem sCells_one : ∀ (p : List (Int × Int)), ∀ u ∈ sCells p, u.oneCell' = true
  | [], u, h => by cases h
  | s :: r, u, h => by
    simp only [sCells, List.mem_cons] at h
    rcases h with rfl | rfl | h
    · rfl
    · rfl
    · exact sCells_one r u h
theorem sCells_insert (p : List (Int × Int)) (i : Nat) (x y : Int) : sCells (p.take i ++ (x, y) :: p.drop i) = (sCells p).take (i * 2) ++ ([.int .i64 x, .int .i64 y] ++ (sCells p).drop (i * 2)) := by
  rw [sCells_append, sCells_take, sCells_drop]
  rfl

/-- the row behind an Insert -/
def InsPost (base n : Nat) (l : List (Int × Int)) (w : World) (e : Ending) (w' : World) : Prop :=
  ∃ v', e = .returned v' ∧ w'.ownsRow base 57 2 v' n (sCells l) ∧ Below base w w'

theorem step_size : (Try.prog.info? 57).map (·.size) = some 2 := by kernel_rfl

theorem below_own {w w' : World} {base n C : Nat} {e : TypeId} {v : Value} {xs : List Value} (h : w.ownsRow base e C v n xs) (hb : base ≤ w.heap.size) (hg : w.grownBy w' v.ownBlock) : Below base w w' := (Below.refl _ _).grown hg hb (fun k hk => (h.lt k hk).1)

set_option maxHeartbeats 4000000 in
set_option maxRecDepth 100000 in
/-- at the end -/
theorem insert_end (base g cap n vb : Nat) (cur : Array Value) (p : List (Int × Int)) (x y : Int) (w : World) (hn : n ≤ 3000) (hg : w.heap[g]? = some (.cells cur 57 (0, 0))) (hnc : n ≤ cap) (hcm : cap ≤ maxLen) (hcs : cur.size = cap * 2)
    (htake : cur.toList.take (n * 2) = sCells p) (hlen : p.length = n) (hb : base ≤ g) (hv1 : w.cell? ⟨vb, 0, none⟩ = some (.int .i64 x)) (hv2 : w.cell? ⟨vb, 1, none⟩ = some (.int .i64 y)) :
    Calls Try.prog 62 #[.slice (some ⟨g, 0, none⟩) n cap, .int .i64 n, .slice (some ⟨vb, 0, none⟩) 1 1] w (InsPost base (n + 1) (p ++ [(x, y)]) w) := by
  obtain ⟨i0, hi0, hz0, hz1, hz2⟩ := info_parts step_info
  have hown : w.ownsRow base 57 2 (.slice (some ⟨g, 0, none⟩) n cap) n (sCells p) := ⟨by rw [sCells_length, hlen], .inr ⟨g, cap, cur, rfl, hb, hg, hnc, hcm, hcs, htake⟩⟩
  have hgw : g < w.heap.size := (Array.getElem?_eq_some_iff.1 hg).1
  have HO := Lib.hid hown
  have HG : Hid (base ≤ g ∧ g < w.heap.size) := Lib.hid ⟨hb, hgw⟩
  have HV : Hid (∀ j u, ([.int .i64 x, .int .i64 y] : List Value)[j]? = some u → w.cell? ((⟨vb, 0, none⟩ : Addr).add j) = some u) := Lib.hid (fun j u hj => by
    rw [add_none]
    match j, hj with
    | 0, hj => simp at hj; subst hj; exact hv1
    | 1, hj => simp at hj; subst hj; exact hv2)
  have HE : Hid (sCells (p ++ [(x, y)]) = sCells p ++ [.int .i64 x, .int .i64 y]) := Lib.hid (by rw [sCells_append]; rfl)
  clear hown hg htake hcs hv1 hv2 hb hgw hlen
  unfold maxLen at hcm
  go_enter Try.func62, Try.ntmps62
  go_wp2_with (at_builtin; refine wpList_append_own _ rfl _ _ 26 rfl base 57 i0 (.agg #[.int .i64 0, .int .i64 0]) 2 16 Try.underlying26 hi0 hz0 hz1 hz2 rfl (by decide) (.slice (some ⟨g, 0, none⟩) n cap) n _ rfl HO.out ⟨vb, 0, none⟩ 1 1 [.int .i64 x, .int .i64 y] rfl rfl HV.out (by intro u hu; simp at hu; rcases hu with rfl | rfl <;> rfl) (by unfold maxLen; omega) (by omega) (by have := HG.out; omega) ?_; intro v' w1 hown' hgrow _; refine Hid.out ?_)
  all_goals refine Lib.hid ?_
  all_goals have R := Lib.hid hown'
  all_goals have HB : Hid (Below base w w1) := Lib.hid (below_own HO.out (by have := HG.out; omega) hgrow)
  all_goals clear hown' hgrow
  all_goals go_wp2
  all_goals go_ret
  all_goals exact ⟨v', rfl, by rw [HE.out]; exact R.out, HB.out⟩

theorem overlaps_no (w : World) (vb g o lb cb : Nat) (a b : Value) (cur : List Value) (hg : w.heap[g]? = some (.cells cur.toArray 57 (0, 0))) (hpos : cur.length ≠ 0) (hv : w.heap[vb]? = some (.cells #[a, b] 57 (0, 0))) (hne : vb ≠ g) :
    (callFunc 63 #[.slice (some ⟨vb, 0, none⟩) 1 1, .slice (some ⟨g, o, none⟩) lb cb]).run Try.prog w = .ok (.value (.bool false)) w := by
  rw [run_callFunc_extern Try.func63 (by kernel_rfl) (by kernel_rfl) (by kernel_rfl) (e := Extern.SlicesOverlaps.overlaps #[26, 26] #[4]) (by kernel_rfl),
    Lib.run_overlaps_apart w 26 4 57 Try.underlying26 2 (fun _ => Try.sizeOf57 _) ⟨vb, 0, none⟩ ⟨g, o, none⟩ 1 1 lb cb hne 57 57 2 cur.length (by simp [World.shape?, hv]) (by simp [World.shape?, hg]) hpos (by simp [World.frozen?, hv]) (by simp [World.frozen?, hv])]
  rfl

set_option maxHeartbeats 4000000 in
set_option maxRecDepth 100000 in
/-- ahead of the end, and there is room -/
theorem insert_room (base g cap n i vb : Nat) (cur : List Value) (p : List (Int × Int)) (x y : Int) (w : World) (hi : i < n) (hn : n ≤ 3000) (hg : w.heap[g]? = some (.cells cur.toArray 57 (0, 0))) (hroom : n + 1 ≤ cap) (hcm : cap ≤ maxLen) (hcs : cur.length = cap * 2)
    (htake : cur.take (n * 2) = sCells p) (hlen : p.length = n) (hb : base ≤ g) (hv : w.heap[vb]? = some (.cells #[.int .i64 x, .int .i64 y] 57 (0, 0))) (hne : vb ≠ g) :
    Calls Try.prog 62 #[.slice (some ⟨g, 0, none⟩) n cap, .int .i64 i, .slice (some ⟨vb, 0, none⟩) 1 1] w (InsPost base (n + 1) (p.take i ++ (x, y) :: p.drop i) w) := by
  have HOV : Hid (∀ o lb cb, (callFunc 63 #[.slice (some ⟨vb, 0, none⟩) 1 1, .slice (some ⟨g, o, none⟩) lb cb]).run Try.prog w = .ok (.value (.bool false)) w) := Lib.hid fun o lb cb => overlaps_no w vb g o lb cb _ _ cur hg (by omega) hv hne
  have HG := Lib.hid hg
  have HV := Lib.hid hv
  have HE := Lib.hid (sCells_insert p i x y)
  have HT := Lib.hid htake
  have HL := Lib.hid hlen
  have HCS := Lib.hid hcs
  have HB := Lib.hid hb
  have hlc : (sCells p).length = n * 2 := by rw [sCells_length, hlen]
  have s1 : Hid (((sCells p).drop (i * 2)).length = Nat.min (n + 1 - i) (n + 1 - (i + 1)) * 2) := Lib.hid (by
    rw [List.length_drop, hlc]
    show _ = min (n + 1 - i) (n + 1 - (i + 1)) * 2
    omega)
  have s2 : Hid (∀ j v, ((sCells p).drop (i * 2))[j]? = some v → w.cell? ((⟨g, i * 2, none⟩ : Addr).add j) = some v) := Lib.hid (fun j v hj => by
    rw [add_none, cell_of_row w g (i * 2 + j) _ _ (0, 0) hg]
    rw [List.getElem?_drop, ← htake, List.getElem?_take] at hj
    split at hj
    · simpa using hj
    · cases hj)
  have s3 : Hid ((i + 1) * 2 + ((sCells p).drop (i * 2)).length ≤ cur.length) := Lib.hid (by rw [List.length_drop, hlc, hcs]; omega)
  have s4 : Hid (∀ u ∈ (sCells p).drop (i * 2), u.oneCell' = true) := Lib.hid (fun u hu => sCells_one p u (List.mem_of_mem_drop hu))
  clear hg hv htake hlen hcs hb hlc
  unfold maxLen at hcm
  have hb2 : ¬ (cap = i + 1) := by omega
  have hb4 : ¬ (cap = i) := by omega
  go_enter Try.func62, Try.ntmps62
  go_wp2_with (simp only [HOV.out])
  have hw1 : IntKind.i64.wrap ((i : Int) + 1) = (i : Int) + 1 := IntWalk.i64_in _ (by omega)
  have hb1 : (0 : Int) ≤ (i : Int) + 1 := by omega
  have htn : ((i : Int) + 1).toNat = i + 1 := by omega
  have hin : i ≤ n := by omega
  have hb3 : (i : Int) ≤ (n : Int) + 1 := by omega
  go_region_law (refine step_copy_rowN rfl (.tmp 73) (.tmp 76) 26 26 rfl 57 Try.underlying26 2 step_size g ((i + 1) * 2) (n + 1 - (i + 1)) (cap - (i + 1)) ⟨g, i * 2, none⟩ (n + 1 - i) (cap - i) (by simp [Act.eval, Act.put]) (by simp [Act.eval, Act.put]) cur 57 HG.out ((sCells p).drop (i * 2)) s1.out s2.out s3.out s4.out base w ⟨rfl, rfl, rfl, Nat.le_refl _, fun _ _ => rfl⟩ HB.out _ rfl ?_; intro w4 H4)
  clear hw1 hb1 htn hb3
  obtain ⟨L1, hL1⟩ : ∃ L1, splice cur ((i + 1) * 2) ((sCells p).drop (i * 2)) = L1 := ⟨_, rfl⟩
  have HL1 := Lib.hid hL1
  rw [hL1] at H4
  clear hL1
  have r1 : Hid (([.int .i64 x, .int .i64 y] : List Value).length = Nat.min 1 (n + 1 - i) * 2) := Lib.hid (by
    show 2 = min 1 (n + 1 - i) * 2
    omega)
  have r2 : Hid (∀ j v, ([.int .i64 x, .int .i64 y] : List Value)[j]? = some v → w4.cell? ((⟨vb, 0, none⟩ : Addr).add j) = some v) := Lib.hid (fun j v hj => by
    have hv4 : w4.heap[vb]? = some (.cells #[.int .i64 x, .int .i64 y] 57 (0, 0)) := (H4.out.other vb hne).trans HV.out
    rw [add_none, cell_of_row w4 vb (0 + j) _ _ (0, 0) hv4, Nat.zero_add]
    match j, hj with
    | 0, hj => exact hj
    | 1, hj => exact hj)
  have r3 : Hid (i * 2 + ([.int .i64 x, .int .i64 y] : List Value).length ≤ L1.length) := Lib.hid (by
    have := s3.out
    rw [← HL1.out, length_splice _ _ _ s3.out, HCS.out]
    show i * 2 + 2 ≤ _
    omega)
  have r4 : Hid (∀ u ∈ ([.int .i64 x, .int .i64 y] : List Value), u.oneCell' = true) := Lib.hid (by intro u hu; simp at hu; rcases hu with rfl | rfl <;> rfl)
  go_wp2_with (with_reducible refine wpList_copy_rowN rfl (.tmp 80) (.tmp 81) 26 26 rfl 57 Try.underlying26 2 step_size g (i * 2) (n + 1 - i) (cap - i) ⟨vb, 0, none⟩ 1 1 rfl rfl L1 57 H4.out.row [.int .i64 x, .int .i64 y] r1.out r2.out r3.out r4.out base w H4.out.below HB.out _ rfl ?_; intro w5 H5; refine Hid.out ?_)
  refine Lib.hid ?_
  go_wp2
  go_ret
  have hlc : (sCells p).length = n * 2 := by rw [sCells_length, HL.out]
  refine ⟨_, rfl, ⟨by rw [sCells_length]; simp; have := HL.out; omega, .inr ⟨g, cap, _, rfl, HB.out, H5.out.row, hroom, by unfold maxLen; omega, ?_, ?_⟩⟩, H5.out.below⟩
  · have h3 := r3.out
    have h4 := s3.out
    rw [← HL1.out] at h3 ⊢
    rw [List.size_toArray, length_splice _ _ _ h3, length_splice _ _ _ h4, HCS.out]
  · have e1 : (i + 1) * 2 = i * 2 + ([.int .i64 x, .int .i64 y] : List Value).length := by simp; omega
    have e2 : (n + 1) * 2 = (sCells p).length + ([.int .i64 x, .int .i64 y] : List Value).length := by rw [hlc]; simp; omega
    rw [← HL1.out, e1, e2, List.toList_toArray, splice_shift (by rw [hlc]; exact HT.out) (by omega) (by rw [hlc, HCS.out]; simp; omega), HE.out]

set_option maxHeartbeats 4000000 in
set_option maxRecDepth 100000 in
/-- ahead of the end, and there is no room: a new row -/
theorem insert_grow (base g n i vb : Nat) (cur : List Value) (p : List (Int × Int)) (x y : Int) (w : World) (hi : i < n) (hn : n ≤ 3000) (hg : w.heap[g]? = some (.cells cur.toArray 57 (0, 0)))
    (htake : cur = sCells p) (hlen : p.length = n) (hb : base ≤ g) (hv : w.heap[vb]? = some (.cells #[.int .i64 x, .int .i64 y] 57 (0, 0))) :
    Calls Try.prog 62 #[.slice (some ⟨g, 0, none⟩) n n, .int .i64 i, .slice (some ⟨vb, 0, none⟩) 1 1] w (InsPost base (n + 1) (p.take i ++ (x, y) :: p.drop i) w) := by
  obtain ⟨i0, hi0, hz0, hz1, hz2⟩ := info_parts step_info
  have hgw : g < w.heap.size := (Array.getElem?_eq_some_iff.1 hg).1
  have hvw : vb < w.heap.size := (Array.getElem?_eq_some_iff.1 hv).1
  subst htake
  have hlc : (sCells p).length = n * 2 := by rw [sCells_length, hlen]
  have hcell : ∀ j v, (sCells p)[j]? = some v → w.cell? ⟨g, j, none⟩ = some v := fun j v hj => by
    rw [cell_of_row w g j _ _ (0, 0) hg]
    simpa using hj
  have hold : (Builtin.firstCells i0.size i (.slice (some ⟨g, 0, none⟩) i n)).run Try.prog w.drew = .ok ((sCells p).take (i * 2)).toArray w.drew := by
    rw [hz1]
    exact run_firstCells_some w.drew 2 i ⟨g, 0, none⟩ i n ((sCells p).take (i * 2)) (by rw [List.length_take]; omega) (fun j v hj => by
      rw [add_none, Nat.zero_add]
      rw [List.getElem?_take] at hj
      split at hj
      · exact hcell j v hj
      · cases hj)
  obtain ⟨G, hG⟩ : ∃ G, grownCap w (n + 1) n 57 = G := ⟨_, rfl⟩
  have hGn : n + 1 ≤ G := by rw [← hG]; exact grownCap_ge w _ _ _
  have hGm : G ≤ maxLen := by rw [← hG]; exact grownCap_le_maxLen w (n + 1) n 57 (by unfold maxLen; omega)
  obtain ⟨R, hR⟩ : ∃ R : List Value, (((sCells p).take (i * 2)).toArray ++ Builtin.zeroCells (Value.agg #[.int .i64 0, .int .i64 0]).cells (n + 1 - i) ++ Builtin.zeroCells (Value.agg #[.int .i64 0, .int .i64 0]).cells (G - (n + 1))).toList = R := ⟨_, rfl⟩
  have hRl : R.length = G * 2 := by
    rw [← hR, Array.length_toList, Array.size_append, Array.size_append, size_zeroCells, size_zeroCells]
    show ((sCells p).take (i * 2)).toArray.size + (n + 1 - i) * 2 + (G - (n + 1)) * 2 = _
    rw [List.size_toArray, List.length_take]
    omega
  have hRt : R.take (i * 2) = (sCells p).take (i * 2) := by
    rw [← hR, Array.toList_append, Array.toList_append, List.append_assoc, List.take_append_of_le_length (by simp; omega), List.take_of_length_le (by simp; omega)]
  obtain ⟨W1, hW1⟩ : ∃ W1, W1 = w.drew.alloc (.cells R.toArray 57) := ⟨_, rfl⟩
  have HRZ : Hid (∀ ty, (Builtin.append_ #[26, 3] ty #[.slice (some ⟨g, 0, none⟩) i n, .int .i64 ((n : Int) + 1 - (i : Int))]).run Try.prog w = .ok (.slice (some ⟨w.heap.size, 0, none⟩) (n + 1) G) W1) := Lib.hid (fun ty => by
    have h := Lib.run_append_grow_zeros w 26 3 ty 57 i0 _ .i64 .i64 Try.underlying26 Try.underlying3 hi0 hz0 (some ⟨g, 0, none⟩) i n ((sCells p).take (i * 2)) hold (n + 1 - i) (by omega) (by rw [hz1]; omega) (by omega) (by omega) (by rw [hz2]; omega) (by rw [hz2, show i + (n + 1 - i) = n + 1 by omega]; exact growslice_fits (by omega) (by omega))
    rw [show i + (n + 1 - i) = n + 1 by omega, hG] at h
    rw [show ((n : Int) + 1 - (i : Int)) = ((n + 1 - i : Nat) : Int) by omega, h, hW1, ← hR])
  have HR1 : Hid (W1.heap[w.heap.size]? = some (.cells R.toArray 57 (0, 0))) := Lib.hid (by rw [hW1]; exact heap_alloc_new w.drew _)
  have HB1 : Hid (Below w.heap.size w W1) := Lib.hid (by rw [hW1]; exact (⟨rfl, rfl, rfl, Nat.le_refl _, fun _ _ => rfl⟩ : Below w.heap.size w w.drew).alloc (Nat.le_refl _) _)
  have HC := Lib.hid hcell
  have HV := Lib.hid hv
  have HE := Lib.hid (sCells_insert p i x y)
  have HL := Lib.hid hlen
  have HLC := Lib.hid hlc
  have HB := Lib.hid hb
  have HGW : Hid (g < w.heap.size ∧ vb < w.heap.size) := Lib.hid ⟨hgw, hvw⟩
  have HRL := Lib.hid hRl
  have HRT := Lib.hid hRt
  obtain ⟨N, hN⟩ : ∃ N, w.heap.size = N := ⟨_, rfl⟩
  have HN := Lib.hid hN
  rw [hN] at HRZ HR1 HB1 HGW
  clear hN hg hv hlen hb hlc hcell hold hG hR hRl hRt hW1 hgw hvw hi0 hz0 hz1 hz2
  unfold maxLen at hGm
  have r1 : Hid (([.int .i64 x, .int .i64 y] : List Value).length = Nat.min 1 (n + 1 - i) * 2) := Lib.hid (by
    show 2 = min 1 (n + 1 - i) * 2
    omega)
  have r2 : Hid (∀ j v, ([.int .i64 x, .int .i64 y] : List Value)[j]? = some v → W1.cell? ((⟨vb, 0, none⟩ : Addr).add j) = some v) := Lib.hid (fun j v hj => by
    have hv1 : W1.heap[vb]? = some (.cells #[.int .i64 x, .int .i64 y] 57 (0, 0)) := (HB1.out.block vb HGW.out.2).trans HV.out
    rw [add_none, cell_of_row W1 vb (0 + j) _ _ (0, 0) hv1, Nat.zero_add]
    match j, hj with
    | 0, hj => exact hj
    | 1, hj => exact hj)
  have r3 : Hid (i * 2 + ([.int .i64 x, .int .i64 y] : List Value).length ≤ R.length) := Lib.hid (by
    rw [HRL.out]
    show i * 2 + 2 ≤ _
    omega)
  have r4 : Hid (∀ u ∈ ([.int .i64 x, .int .i64 y] : List Value), u.oneCell' = true) := Lib.hid (by intro u hu; simp at hu; rcases hu with rfl | rfl <;> rfl)
  have hBN : base ≤ N := by have := HB.out; have := HGW.out; omega
  have HBN := Lib.hid hBN
  clear hBN
  have hc1 : ¬ (n = i) := by omega
  have hc2 : ¬ (G = i) := by omega
  have hc3 : ¬ (G = i + 1) := by omega
  go_enter Try.func62, Try.ntmps62
  go_wp2_with (at_builtin; refine Lib.wpList_append_run _ rfl _ _ _ _ rfl _ _ rfl rfl _ _ (HRZ.out _) ?_; refine Hid.out ?_)
  refine Lib.hid ?_
  go_wp2_with (with_reducible refine wpList_copy_rowN rfl (.tmp 43) (.tmp 44) 26 26 rfl 57 Try.underlying26 2 step_size N (i * 2) (n + 1 - i) (G - i) ⟨vb, 0, none⟩ 1 1 rfl rfl R 57 HR1.out [.int .i64 x, .int .i64 y] r1.out r2.out r3.out r4.out base w (HB1.out.mono HBN.out) HBN.out _ rfl ?_; intro w4 H4; refine Hid.out ?_)
  refine Lib.hid ?_
  go_wp2
  have q1 : Hid (((sCells p).drop (i * 2)).length = Nat.min (n - i) (n + 1 - (i + 1)) * 2) := Lib.hid (by
    rw [List.length_drop, HLC.out]
    show _ = min (n - i) (n + 1 - (i + 1)) * 2
    omega)
  have q2 : Hid (∀ j v, ((sCells p).drop (i * 2))[j]? = some v → w4.cell? ((⟨g, i * 2, none⟩ : Addr).add j) = some v) := Lib.hid (fun j v hj => by
    have h4 : w4.heap[g]? = w.heap[g]? := (H4.out.other g (by have := HGW.out; omega)).trans (HB1.out.block g HGW.out.1)
    rw [add_none]
    have h5 : w4.cell? ⟨g, i * 2 + j, none⟩ = w.cell? ⟨g, i * 2 + j, none⟩ := World.cell?_of_block h4
    rw [h5]
    exact HC.out (i * 2 + j) v (by rwa [List.getElem?_drop] at hj))
  obtain ⟨L1, hL1⟩ : ∃ L1, splice R (i * 2) ([.int .i64 x, .int .i64 y] : List Value) = L1 := ⟨_, rfl⟩
  have HL1 := Lib.hid hL1
  rw [hL1] at H4
  clear hL1
  have q3 : Hid ((i + 1) * 2 + ((sCells p).drop (i * 2)).length ≤ L1.length) := Lib.hid (by
    rw [← HL1.out, length_splice _ _ _ r3.out, HRL.out, List.length_drop, HLC.out]
    omega)
  have q4 : Hid (∀ u ∈ (sCells p).drop (i * 2), u.oneCell' = true) := Lib.hid (fun u hu => sCells_one p u (List.mem_of_mem_drop hu))
  have hw1 : IntKind.i64.wrap ((i : Int) + 1) = (i : Int) + 1 := IntWalk.i64_in _ (by omega)
  have hb1 : (0 : Int) ≤ (i : Int) + 1 := by omega
  have htn : ((i : Int) + 1).toNat = i + 1 := by omega
  have hin : i ≤ n := by omega
  have hb3 : (i : Int) ≤ (n : Int) + 1 := by omega
  have hb4 : (i : Int) ≤ (n : Int) := by omega
  go_region_law (refine step_copy_rowN rfl (.tmp 50) (.tmp 53) 26 26 rfl 57 Try.underlying26 2 step_size N ((i + 1) * 2) (n + 1 - (i + 1)) (G - (i + 1)) ⟨g, i * 2, none⟩ (n - i) (n - i) (by simp [Act.eval, Act.put]) (by simp [Act.eval, Act.put]) L1 57 H4.out.row ((sCells p).drop (i * 2)) q1.out q2.out q3.out q4.out base w (H4.out.below.trans ⟨rfl, rfl, rfl, Nat.le_refl _, fun _ _ => rfl⟩) HBN.out _ rfl ?_; intro w5 H5)
  clear hw1 hb1 htn hb3 hb4
  go_wp2
  go_ret
  refine ⟨_, rfl, ⟨by rw [sCells_length]; simp; have := HL.out; omega, .inr ⟨N, G, _, rfl, HBN.out, H5.out.row, hGn, by unfold maxLen; omega, ?_, ?_⟩⟩, H5.out.below⟩
  · have h3 := q3.out
    have h4 := r3.out
    rw [← HL1.out] at h3 ⊢
    rw [List.size_toArray, length_splice _ _ _ h3, length_splice _ _ _ h4, HRL.out]
  · have ea : ((sCells p).take (i * 2)).length = i * 2 := by rw [List.length_take, HLC.out]; omega
    have e0 : R.take ((sCells p).take (i * 2)).length = (sCells p).take (i * 2) := by rw [ea]; exact HRT.out
    have ed : ((sCells p).drop (i * 2)).length = n * 2 - i * 2 := by rw [List.length_drop, HLC.out]
    have h := splice_fill (v := ([.int .i64 x, .int .i64 y] : List Value)) (d := (sCells p).drop (i * 2)) e0 (by rw [ea, ed, HRL.out]; simp; omega)
    rw [ea, HL1.out] at h
    have e1 : (i + 1) * 2 = i * 2 + ([.int .i64 x, .int .i64 y] : List Value).length := by simp; omega
    have e2 : (n + 1) * 2 = i * 2 + ([.int .i64 x, .int .i64 y] : List Value).length + ((sCells p).drop (i * 2)).length := by rw [ed]; simp; omega
    rw [e1, e2, List.toList_toArray, h, HE.out]

/-- slices.Insert of one step into a row of one's own -/
theorem insert_any (base i vb n : Nat) (A : Option Addr) (c : Nat) (p : List (Int × Int)) (x y : Int) (w : World) (h0 : 0 < n) (hi : i ≤ n) (hn : n ≤ 3000) (hown : w.ownsRow base 57 2 (.slice A n c) n (sCells p))
    (hv : w.heap[vb]? = some (.cells #[.int .i64 x, .int .i64 y] 57 (0, 0))) (hne : ∀ g, A = some ⟨g, 0, none⟩ → vb ≠ g) :
    Calls Try.prog 62 #[.slice A n c, .int .i64 i, .slice (some ⟨vb, 0, none⟩) 1 1] w (InsPost base (n + 1) (p.take i ++ (x, y) :: p.drop i) w) := by
  have hlen : p.length = n := by have := hown.1; rw [sCells_length] at this; omega
  have hv1 : w.cell? ⟨vb, 0, none⟩ = some (.int .i64 x) := by rw [cell_of_row w vb 0 _ _ (0, 0) hv]; rfl
  have hv2 : w.cell? ⟨vb, 1, none⟩ = some (.int .i64 y) := by rw [cell_of_row w vb 1 _ _ (0, 0) hv]; rfl
  rcases hown.2 with ⟨_, h⟩ | ⟨g, cap, cur, e, hb, hg, hnc, hcm, hcs, htake⟩
  · omega
  · injection e with e1 e2 e3
    subst e1 e3
    by_cases hin : i = n
    · have e4 : p.take i ++ (x, y) :: p.drop i = p ++ [(x, y)] := by rw [hin, ← hlen, List.take_length, List.drop_length]
      rw [e4, hin]
      exact insert_end base g c n vb cur p x y w hn hg hnc hcm hcs htake hlen hb hv1 hv2
    · have hg' : w.heap[g]? = some (.cells cur.toList.toArray 57 (0, 0)) := by simpa using hg
      by_cases hroom : n + 1 ≤ c
      · exact insert_room base g c n i vb cur.toList p x y w (by omega) hn hg' hroom hcm (by simpa using hcs) htake hlen hb hv (hne g rfl)
      · obtain rfl : c = n := by omega
        exact insert_grow base g c i vb cur.toList p x y w (by omega) hn hg' (by rw [← htake, List.take_of_length_le (by simp; omega)]) hlen hb hv

end Go.Proofs.Ytkhnlbkghjjdnaa
