/- Plain facts: what sorting and Compact make of times: the times, rising, none twice. No program's text is walked here. Plain facts for layer 13: the times that count, in order; the first of them that fits; what is got may be held. No program's text is walked here. The program's at of layer 13. Written by gen/gen_slotp.py. Words for memory: several rows of one's own that grow beside one another, whose elements read older memory alone. General: nothing of the program stands here. 'copy(dst, src)' as a step of a walk, for elements of several cells, dst lying in a row that is known whole. General: nothing of the program stands here. slices.Insert and slices.Delete of holdings (the library's own text), in a row of one's own: there is room or not, at the end or ahead of it. slices.Delete of one holding (the library's own text), in a row of one's own. -/
import Derived.Lib.SlicesCompact
import Derived.Test.YtpoalgkgomljmaaDoorMg02
import Derived.Test.YtpoalgkgomljmaaDoorMg07
import Derived.Deep.QuietTactic
import Derived.Test.YtpoalgkgomljmaaDoorMg06
import Derived.Test.YtpoalgkgomljmaaDoorMg05
import Derived.Test.YtpoalgkgomljmaaDoorMg01
import Derived.Laws.CopyOwn
import Derived.Lib.Overlaps
import Derived.Lib.AppendZerosOnto
import Derived.Deep.RegionLaw
import Derived.Laws.NewBlocks
import Derived.IntWalk
import Derived.LoopTactic
import Derived.Shelf.GgSortFunc.RowK
import Derived.Lib.SliceRun
import Derived.Laws.Rows
namespace Go.Proofs.YtpoalgkgomljmaaDoor

abbrev Rising (l : List Int) : Prop := l.Pairwise fun a b => a < b
theorem rise_ext : ∀ {a b : List Int}, Rising a → Rising b → (∀ x, x ∈ a ↔ x ∈ b) → a = b
  | [], [], _, _, _ => rfl
  | [], y :: b, _, _, h => by have := (h y).2 (List.mem_cons_self ..); cases this
  | x :: a, [], _, _, h => by have := (h x).1 (List.mem_cons_self ..); cases this
  | x :: a, y :: b, ha, hb, h => by
    unfold Rising at ha hb
    rw [List.pairwise_cons] at ha hb
    have hxy : x = y := by
      rcases List.mem_cons.1 ((h x).1 (List.mem_cons_self ..)) with e | e
      · exact e
      · rcases List.mem_cons.1 ((h y).2 (List.mem_cons_self ..)) with e' | e'
        · exact e'.symm
        · have h1 := hb.1 x e
          have h2 := ha.1 y e'
          omega
    subst hxy
    congr 1
    refine rise_ext ha.2 hb.2 fun z => ?_
    constructor
    · intro hz
      rcases List.mem_cons.1 ((h z).1 (List.mem_cons_of_mem _ hz)) with e | e
      · subst e; have := ha.1 z hz; omega
      · exact e
    · intro hz
      rcases List.mem_cons.1 ((h z).2 (List.mem_cons_of_mem _ hz)) with e | e
      · subst e; have := hb.1 z hz; omega
      · exact e
theorem mem_insZ {x z : Int} : ∀ {l : List Int}, z ∈ insZ x l ↔ z = x ∨ z ∈ l
  | [] => by simp [insZ]
  | y :: r => by
    unfold insZ
    split
    · simp
    · split
      · rename_i e
        subst e
        simp
      · rw [List.mem_cons, mem_insZ, List.mem_cons]
        constructor
        · rintro (h | h | h)
          · exact .inr (.inl h)
          · exact .inl h
          · exact .inr (.inr h)
        · rintro (h | h | h)
          · exact .inr (.inl h)
          · exact .inl h
          · exact .inr (.inr h)
theorem rising_insZ {x : Int} : ∀ {l : List Int}, Rising l → Rising (insZ x l)
  | [], _ => List.pairwise_singleton _ _
  | y :: r, h => by
    have h' := List.pairwise_cons.1 h
    unfold insZ
    split
    · rename_i hlt
      refine List.pairwise_cons.2 ⟨fun z hz => ?_, h⟩
      rcases List.mem_cons.1 hz with e | e
      · subst e; exact hlt
      · have := h'.1 z e; omega
    · split
      · exact h
      · rename_i h1 h2
        refine List.pairwise_cons.2 ⟨fun z hz => ?_, rising_insZ h'.2⟩
        rcases mem_insZ.1 hz with e | e
        · subst e; omega
        · exact h'.1 z e
theorem mem_foldZ {z : Int} : ∀ {l : List Int}, z ∈ l.foldr insZ [] ↔ z ∈ l
  | [] => Iff.rfl
  | x :: r => by rw [List.foldr_cons, mem_insZ, mem_foldZ, List.mem_cons]
theorem rising_foldZ : ∀ (l : List Int), Rising (l.foldr insZ [])
  | [] => List.Pairwise.nil
  | _ :: r => rising_insZ (rising_foldZ r)
section
variable {zs : List Int}
theorem keeps_first (zs : List Int) : ∀ j, j < zs.length → ∃ i, i ≤ j ∧ Lib.keeps zs.toArray i = true ∧ zs.toArray[i]! = zs.toArray[j]!
  | 0, _ => ⟨0, Nat.le_refl _, by simp [Lib.keeps], rfl⟩
  | j + 1, hj => by
    by_cases h : zs.toArray[j + 1]! = zs.toArray[j]!
    · obtain ⟨i, h1, h2, h3⟩ := keeps_first zs j (by omega)
      exact ⟨i, by omega, h2, h3.trans h.symm⟩
    · exact ⟨j + 1, Nat.le_refl _, by simpa [Lib.keeps] using h, rfl⟩
theorem arr_at {j : Nat} (hj : j < zs.length) : zs.toArray[j]! = zs[j] := by rw [getElem!_pos _ _ (by simpa using hj)]; simp
theorem mem_compact {x : Int} : x ∈ Lib.compactUpTo zs.toArray zs.length ↔ x ∈ zs := by
  unfold Lib.compactUpTo
  rw [List.mem_map]
  constructor
  · rintro ⟨j, hj, rfl⟩
    rw [List.mem_filter, List.mem_range] at hj
    rw [arr_at hj.1]
    exact List.getElem_mem hj.1
  · intro hx
    obtain ⟨j, hj, rfl⟩ := List.getElem_of_mem hx
    obtain ⟨i, h1, h2, h3⟩ := keeps_first zs j hj
    exact ⟨i, by rw [List.mem_filter, List.mem_range]; exact ⟨by omega, h2⟩, by rw [h3, arr_at hj]⟩
theorem rising_compact (h : zs.Pairwise fun a b => a ≤ b) : Rising (Lib.compactUpTo zs.toArray zs.length) := by
  unfold Lib.compactUpTo Rising
  rw [List.pairwise_map, List.pairwise_filter]
  refine List.pairwise_iff_getElem.2 fun i j hi hj hij _ hk => ?_
  simp only [List.getElem_range, List.length_range] at hi hj hk ⊢
  rw [arr_at (by omega), arr_at (by omega)]
  have hne : zs.toArray[j]! ≠ zs.toArray[j - 1]! := by
    have : j ≠ 0 := by omega
    simpa [Lib.keeps, this] using hk
  rw [arr_at (by omega), arr_at (by omega)] at hne
  have h1 : zs[i] ≤ zs[j - 1] := by
    rcases Nat.eq_or_lt_of_le (show i ≤ j - 1 by omega) with e | e
    · subst e; exact Int.le_refl _
    · exact List.pairwise_iff_getElem.1 h i (j - 1) (by omega) (by omega) e
  have h2 := List.pairwise_iff_getElem.1 h (j - 1) j (by omega) (by omega) (by omega)
  omega
end
theorem sort_le (l : List Int) : (l.mergeSort fun x y => decide (x ≤ y)).Pairwise fun a b => a ≤ b :=
  (List.pairwise_mergeSort (fun a b c h1 h2 => by simp at *; omega) (fun a b => by simp; omega) l).imp fun h => by simpa using h
/-- sorted, and each but once -/
theorem compact_sort (l : List Int) : Lib.compactUpTo (l.mergeSort fun x y => decide (x ≤ y)).toArray (l.mergeSort fun x y => decide (x ≤ y)).length = l.foldr insZ [] :=
  rise_ext (rising_compact (sort_le l)) (rising_foldZ l) fun x => by rw [mem_compact, mem_foldZ, List.mem_mergeSort]
theorem fold_short {l : List Int} (h : l.length < 2) : l.foldr insZ [] = l := by
  match l, h with
  | [], _ => rfl
  | [x], _ => rfl

end Go.Proofs.YtpoalgkgomljmaaDoor

namespace Go.Proofs.YtpoalgkgomljmaaDoor

section
variable {g : Gr} {use : List Int} {l : Tb} {s : Sp} {t u : Int}
/-- the times that count, rising -/
def ticksS (l : Tb) (frm : Int) : List Int := frm :: endsT l frm
theorem mem_endsT (hr : rightT l = true) {y z : Int} : y ∈ endsT l z ↔ z < y ∧ ∃ x ∈ l, x.to = y := by
  unfold endsT
  rw [if_pos hr, mem_foldZ, List.mem_filter, List.mem_map, decide_eq_true_eq]
  exact ⟨fun h => ⟨h.2, h.1⟩, fun h => ⟨h.2, h.1⟩⟩
theorem endsT_wrong (hr : rightT l = false) {z : Int} : endsT l z = [] := by
  unfold endsT
  rw [if_neg (by rw [hr]; decide)]
theorem ticks_mem (hr : rightT l = true) : u ∈ ticksS l t ↔ u ∈ timesS l t := by
  unfold ticksS
  rw [List.mem_cons, mem_endsT hr, mem_timesS]
theorem ticks_rise (l : Tb) (t : Int) : Rising (ticksS l t) := by
  unfold ticksS
  cases hr : rightT l with
  | true =>
    refine List.pairwise_cons.2 ⟨fun y hy => ((mem_endsT hr).1 hy).1, ?_⟩
    unfold endsT
    rw [if_pos hr]
    exact rising_foldZ _
  | false =>
    rw [endsT_wrong hr]
    exact List.pairwise_singleton _ _
theorem ticks_len : (ticksS l t).length ≤ l.length + 1 := by
  unfold ticksS
  have := ends_len l t
  rw [List.length_cons]
  omega
theorem tick_at {k : Nat} (hk : k < (ticksS l t).length) : (ticksS l t).getD k 0 = (ticksS l t)[k] := by rw [List.getD, List.getElem?_eq_getElem hk]; rfl
/-- the k-th time is the first that fits -/
theorem tick_first (hr : rightT l = true) {k : Nat} (hk : k < (ticksS l t).length) (hno : ∀ j, j < k → ¬ FitsS g use l s u ((ticksS l t).getD j 0)) (hf : FitsS g use l s u ((ticksS l t).getD k 0)) : firstS g use l s t u = some ((ticksS l t).getD k 0) := by
  refine firstS_some.2 ⟨⟨(ticks_mem hr).1 (by rw [tick_at hk]; exact List.getElem_mem hk), hf⟩, fun y hy hfy => ?_⟩
  obtain ⟨j, hj, e⟩ := List.getElem_of_mem ((ticks_mem hr).2 hy)
  by_cases h1 : j < k
  · refine absurd hfy ?_
    rw [← e, ← tick_at hj]
    exact hno j h1
  · rw [← e, tick_at hk]
    by_cases h2 : k = j
    · subst h2; exact Int.le_refl _
    · have := List.pairwise_iff_getElem.1 (ticks_rise l t) k j hk hj (by omega)
      omega
theorem tick_none (hr : rightT l = true) (hno : ∀ j, j < (ticksS l t).length → ¬ FitsS g use l s u ((ticksS l t).getD j 0)) : firstS g use l s t u = none := by
  refine firstS_none.2 fun y hy hf => ?_
  obtain ⟨j, hj, e⟩ := List.getElem_of_mem ((ticks_mem hr).2 hy)
  refine hno j hj ?_
  rw [tick_at hj, e]
  exact hf
/-- of no table there is none -/
theorem first_wrong (hr : rightT l = false) : firstS g use l s t u = none := firstS_none.2 fun y _ hf => by
  have := hf.2.1
  rw [hr] at this; cases this
theorem had_nil : hadB g [] s = false := by
  rw [Bool.eq_false_iff]
  intro h
  obtain ⟨hm, hn⟩ := hadB_is.1 h
  have h1 := rightS_is (mayB_is hm).2.2
  have h2 : cntS g [] s g.length = 0 := cntP_zero fun k _ => by
    rw [Bool.eq_false_iff]
    intro hk
    have := (suitP_is.1 hk).2.1
    unfold hasB at this
    rw [Bool.and_eq_true] at this
    cases this.2
  rw [h2] at hn
  omega
/-- what is left of no set is nothing, and nothing fits there -/
theorem at_had (h0 : 0 ≤ t) (h1 : t < 4611686018427387904) (hr : rightT l = true) (he : endsS s t ≤ u) :
    hadB g (lessL use (busyT l t (endsS s t))) s = decide (FitsS g use l s u t) ∧ findL g (lessL use (busyT l t (endsS s t))) s = gotS g use l s u t := by
  cases hu : rightB use with
  | true =>
    cases hh : hadB g (lessL use (busyT l t (endsS s t))) s with
    | true =>
      have hf : FitsS g use l s u t := ⟨⟨h0, h1⟩, hr, hu, he, hh⟩
      exact ⟨(decide_eq_true hf).symm, (gotS_is hf).symm⟩
    | false =>
      have hf : ¬ FitsS g use l s u t := fun h => by
        have := h.2.2.2.2
        unfold freeS at this
        rw [this] at hh; cases hh
      exact ⟨(decide_eq_false hf).symm, by rw [gotS_no hf, findL_no hh]⟩
  | false =>
    have hf : ¬ FitsS g use l s u t := fun h => by rw [h.2.2.1] at hu; cases hu
    have e : lessL use (busyT l t (endsS s t)) = [] := by
      unfold lessL whichL
      rw [hu, Bool.false_and]
      rfl
    rw [e]
    exact ⟨by rw [had_nil, decide_eq_false hf], by rw [gotS_no hf, findL_no had_nil]⟩
theorem fits_not (h : ¬ (0 ≤ t ∧ t < 4611686018427387904) ∨ u < endsS s t) : ¬ FitsS g use l s u t := fun hf => by
  rcases h with h | h
  · exact h hf.1
  · have := hf.2.2.2.1
    omega
/-- what is found is something -/
theorem find_some {F : List Int} (h : hadB g F s = true) : 0 < (findL g F s).length := by
  obtain ⟨hm, hn⟩ := hadB_is.1 h
  obtain ⟨hg, hF, hs⟩ := mayB_is hm
  have h1 := rightS_is hs
  have h2 : ∃ k, k < g.length ∧ selP g F s k = true := by
    refine Classical.byContradiction fun hno => ?_
    have h3 : cntP (selP g F s) g.length = 0 := cntP_zero fun k hk => by
      rw [Bool.eq_false_iff]
      exact fun h4 => hno ⟨k, hk, h4⟩
    have h5 := cntP_ahead (suitP g F s) s.nodes.toNat g.length
    have h6 : (fun x => suitP g F s x && decide (cntP (suitP g F s) x < s.nodes.toNat)) = selP g F s := by
      funext x
      unfold selP cntS
      congr 1
      rw [decide_eq_decide]
      omega
    rw [h6, h3] at h5
    unfold cntS at hn
    omega
  obtain ⟨k, hk, hsel⟩ := h2
  have h3 := here_some hg hs hk hsel
  rw [← here_is h hk (suit_node (sel_suit hsel))] at h3
  obtain ⟨x, hx⟩ := List.exists_mem_of_length_pos h3
  exact List.length_pos_of_mem ((mem_meetL (findL_right hg) (underL_right hg hk) x).1 hx).1
/-- the holding of what is got: it may be -/
theorem got_may (h : FitsS g use l s u t) (id : Int) : mayH ⟨id, gotS g use l s u t, t, endsS s t⟩ = true := by
  refine decide_eq_true ⟨?_, gotS_right h, h.1.1, endsS_after (fits_spec h).2 h.1.1 h.1.2, endsS_never h.1.1⟩
  show 0 < (gotS g use l s u t).length
  rw [gotS_is h]
  exact find_some h.2.2.2.2
theorem apart_turn {a b : List Int} (ha : rightB a = true) (hb : rightB b = true) (h : apartB a b = true) : apartB b a = true :=
  (apart_iff hb ha).2 fun n h1 h2 => (apart_iff ha hb).1 h n h2 h1
/-- it may be added, if its number isn't there -/
theorem got_add (h : FitsS g use l s u t) (hl : l.length ≤ 30) (id : Int) : addE l ⟨id, gotS g use l s u t, t, endsS s t⟩ = 0 ∨ addE l ⟨id, gotS g use l s u t, t, endsS s t⟩ = 7 := by
  have hm := got_may h id
  cases ht : hasT l id with
  | true => exact .inr (addE_there h.2.1 hm ht)
  | false =>
    left
    have h1 := addE_apart h.2.1 hm ht hl
    rw [apart_turn (gotS_right h) (busy_right _ _) (gotS_apart h)] at h1
    exact beq_iff_eq.1 h1
end

end Go.Proofs.YtpoalgkgomljmaaDoor

namespace Go.Proofs.YtpoalgkgomljmaaDoor
open Go.RowKit

theorem less_i64 {a b : List Int} : ∀ x ∈ lessL a b, I64 x := fun x hx => by
  have := right_mem (right_lessL a b) x hx
  unfold I64; omega
set_option maxRecDepth 100000 in
set_option maxHeartbeats 8000000 in
theorem slotAt_1 (HSP : SpecOk) {A A2 A3 : Option Addr} {n c n2 c2 n3 c3 : Nat} {g : Gr} {use : List Int} {l : Tb} {s : Sp} {t u : Int} {w : World} (hg : GAsk w A n c g) (hu : LAsk w A2 n2 c2 use) (hl : TAsk w A3 n3 c3 l) (hf : FewT l) (hs : SAsk s) (ht : I64 t) (hv : I64 u) (hG : Glob w) (h0 : ¬ (0 ≤ t ∧ t ≤ 4611686018427387904)) : Calls Tryd.prog 13 #[.slice A n c, .slice A2 n2 c2, .slice A3 n3 c3, .agg #[.int .i64 s.nodes, .int .i64 s.cores, .int .i64 s.gpus, .string s.tag, .bool s.whole, .int .i64 s.long, .int .i64 s.prio], .int .i64 t, .int .i64 u] w (FPost [] false w) := by
  have hba : Below w.heap.size w (w.alloc (.cells #[.int .i64 s.nodes, .int .i64 s.cores, .int .i64 s.gpus, .string s.tag, .bool s.whole, .int .i64 s.long, .int .i64 s.prio] 26)) := (Below.refl _ _).alloc (Nat.le_refl _) _
  have HB := Lib.hid hba
  have HG := Lib.hid (hG.next hba)
  have GA := Lib.hid (hg.next hba)
  have UA := Lib.hid (hu.next hba)
  have TA := Lib.hid (hl.next hba)
  have BS : Hid (BoxS (w.alloc (.cells #[.int .i64 s.nodes, .int .i64 s.cores, .int .i64 s.gpus, .string s.tag, .bool s.whole, .int .i64 s.long, .int .i64 s.prio] 26)) w.heap.size s) := Lib.hid (box_new w s)
  have HF := Lib.hid hf
  have HS := Lib.hid hs
  have HT := Lib.hid ht
  obtain ⟨e, he⟩ : ∃ e, endsS s t = e := ⟨_, rfl⟩
  have HE := Lib.hid he
  have HTB : Hid (timeB t = false) := Lib.hid (by unfold timeB; exact decide_eq_false h0)
  clear h0
  have _u := hv
  clear _u hba hG hg hu hl hf hs ht hv he
  go_enter Tryd.func13, Tryd.ntmps13
  have q0 := BS.out.c0
  have q1 := BS.out.c1
  have q2 := BS.out.c2
  have q3 := BS.out.c3
  have q4 := BS.out.c4
  have q5 := BS.out.c5
  have q6 := BS.out.c6
  go_wp2_with fail
  refine (s7_ends HSP HS.out HG.out HT.out HE.out).mono ?_
  rintro e w1 ⟨rfl, hb⟩
  have HBq := Lib.hid (HB.out.trans (hb.mono HB.out.size))
  clear HB
  have HB := HBq
  clear HBq
  have HGq := Lib.hid (HG.out.next hb)
  clear HG
  have HG := HGq
  clear HGq
  have GAq := Lib.hid (GA.out.next hb)
  clear GA
  have GA := GAq
  clear GAq
  have UAq := Lib.hid (UA.out.next hb)
  clear UA
  have UA := UAq
  clear UAq
  have TAq := Lib.hid (TA.out.next hb)
  clear TA
  have TA := TAq
  clear TAq
  have BSq := Lib.hid (BS.out.next hb)
  clear BS
  have BS := BSq
  clear BSq
  clear hb
  clear q0 q1 q2 q3 q4 q5 q6
  go_wp2_with fail
  refine (time_b HTB.out).mono ?_
  rintro e w2 ⟨rfl, hb⟩
  have HBq := Lib.hid (HB.out.trans (hb.mono HB.out.size))
  clear HB
  have HB := HBq
  clear HBq
  have HGq := Lib.hid (HG.out.next hb)
  clear HG
  have HG := HGq
  clear HGq
  have GAq := Lib.hid (GA.out.next hb)
  clear GA
  have GA := GAq
  clear GAq
  have UAq := Lib.hid (UA.out.next hb)
  clear UA
  have UA := UAq
  clear UAq
  have TAq := Lib.hid (TA.out.next hb)
  clear TA
  have TA := TAq
  clear TAq
  have BSq := Lib.hid (BS.out.next hb)
  clear BS
  have BS := BSq
  clear BSq
  clear hb
  go_wp2
  go_ret2
  exact ⟨⟨none, 0, rfl, RI.nil, fun _ => rfl, Nat.le_refl _⟩, HB.out⟩
set_option maxRecDepth 100000 in
set_option maxHeartbeats 8000000 in
theorem slotAt_2 (HSP : SpecOk) {A A2 A3 : Option Addr} {n c n2 c2 n3 c3 : Nat} {g : Gr} {use : List Int} {l : Tb} {s : Sp} {t u : Int} {w : World} (hg : GAsk w A n c g) (hu : LAsk w A2 n2 c2 use) (hl : TAsk w A3 n3 c3 l) (hf : FewT l) (hs : SAsk s) (ht : I64 t) (hv : I64 u) (hG : Glob w) (h0 : t = 4611686018427387904) : Calls Tryd.prog 13 #[.slice A n c, .slice A2 n2 c2, .slice A3 n3 c3, .agg #[.int .i64 s.nodes, .int .i64 s.cores, .int .i64 s.gpus, .string s.tag, .bool s.whole, .int .i64 s.long, .int .i64 s.prio], .int .i64 t, .int .i64 u] w (FPost [] false w) := by
  have hba : Below w.heap.size w (w.alloc (.cells #[.int .i64 s.nodes, .int .i64 s.cores, .int .i64 s.gpus, .string s.tag, .bool s.whole, .int .i64 s.long, .int .i64 s.prio] 26)) := (Below.refl _ _).alloc (Nat.le_refl _) _
  have HB := Lib.hid hba
  have HG := Lib.hid (hG.next hba)
  have GA := Lib.hid (hg.next hba)
  have UA := Lib.hid (hu.next hba)
  have TA := Lib.hid (hl.next hba)
  have BS : Hid (BoxS (w.alloc (.cells #[.int .i64 s.nodes, .int .i64 s.cores, .int .i64 s.gpus, .string s.tag, .bool s.whole, .int .i64 s.long, .int .i64 s.prio] 26)) w.heap.size s) := Lib.hid (box_new w s)
  have HF := Lib.hid hf
  have HS := Lib.hid hs
  have HT := Lib.hid ht
  obtain ⟨e, he⟩ : ∃ e, endsS s t = e := ⟨_, rfl⟩
  have HE := Lib.hid he
  have HTB : Hid (timeB t = true) := Lib.hid (by unfold timeB; exact decide_eq_true (by omega))
  have d1 : (t == 4611686018427387904) = true := beq_iff_eq.2 h0
  clear h0
  have _u := hv
  clear _u hba hG hg hu hl hf hs ht hv he
  go_enter Tryd.func13, Tryd.ntmps13
  have q0 := BS.out.c0
  have q1 := BS.out.c1
  have q2 := BS.out.c2
  have q3 := BS.out.c3
  have q4 := BS.out.c4
  have q5 := BS.out.c5
  have q6 := BS.out.c6
  go_wp2_with fail
  refine (s7_ends HSP HS.out HG.out HT.out HE.out).mono ?_
  rintro e w1 ⟨rfl, hb⟩
  have HBq := Lib.hid (HB.out.trans (hb.mono HB.out.size))
  clear HB
  have HB := HBq
  clear HBq
  have HGq := Lib.hid (HG.out.next hb)
  clear HG
  have HG := HGq
  clear HGq
  have GAq := Lib.hid (GA.out.next hb)
  clear GA
  have GA := GAq
  clear GAq
  have UAq := Lib.hid (UA.out.next hb)
  clear UA
  have UA := UAq
  clear UAq
  have TAq := Lib.hid (TA.out.next hb)
  clear TA
  have TA := TAq
  clear TAq
  have BSq := Lib.hid (BS.out.next hb)
  clear BS
  have BS := BSq
  clear BSq
  clear hb
  clear q0 q1 q2 q3 q4 q5 q6
  go_wp2_with fail
  refine (time_b HTB.out).mono ?_
  rintro e w2 ⟨rfl, hb⟩
  have HBq := Lib.hid (HB.out.trans (hb.mono HB.out.size))
  clear HB
  have HB := HBq
  clear HBq
  have HGq := Lib.hid (HG.out.next hb)
  clear HG
  have HG := HGq
  clear HGq
  have GAq := Lib.hid (GA.out.next hb)
  clear GA
  have GA := GAq
  clear GAq
  have UAq := Lib.hid (UA.out.next hb)
  clear UA
  have UA := UAq
  clear UAq
  have TAq := Lib.hid (TA.out.next hb)
  clear TA
  have TA := TAq
  clear TAq
  have BSq := Lib.hid (BS.out.next hb)
  clear BS
  have BS := BSq
  clear BSq
  clear hb
  go_wp2
  go_ret2
  exact ⟨⟨none, 0, rfl, RI.nil, fun _ => rfl, Nat.le_refl _⟩, HB.out⟩
set_option maxRecDepth 100000 in
set_option maxHeartbeats 8000000 in
theorem slotAt_3 (HSP : SpecOk) {A A2 A3 : Option Addr} {n c n2 c2 n3 c3 : Nat} {g : Gr} {use : List Int} {l : Tb} {s : Sp} {t u : Int} {w : World} (hg : GAsk w A n c g) (hu : LAsk w A2 n2 c2 use) (hl : TAsk w A3 n3 c3 l) (hf : FewT l) (hs : SAsk s) (ht : I64 t) (hv : I64 u) (hG : Glob w) (h0 : 0 ≤ t) (h1 : t < 4611686018427387904) (h2 : u < endsS s t) : Calls Tryd.prog 13 #[.slice A n c, .slice A2 n2 c2, .slice A3 n3 c3, .agg #[.int .i64 s.nodes, .int .i64 s.cores, .int .i64 s.gpus, .string s.tag, .bool s.whole, .int .i64 s.long, .int .i64 s.prio], .int .i64 t, .int .i64 u] w (FPost [] false w) := by
  have hba : Below w.heap.size w (w.alloc (.cells #[.int .i64 s.nodes, .int .i64 s.cores, .int .i64 s.gpus, .string s.tag, .bool s.whole, .int .i64 s.long, .int .i64 s.prio] 26)) := (Below.refl _ _).alloc (Nat.le_refl _) _
  have HB := Lib.hid hba
  have HG := Lib.hid (hG.next hba)
  have GA := Lib.hid (hg.next hba)
  have UA := Lib.hid (hu.next hba)
  have TA := Lib.hid (hl.next hba)
  have BS : Hid (BoxS (w.alloc (.cells #[.int .i64 s.nodes, .int .i64 s.cores, .int .i64 s.gpus, .string s.tag, .bool s.whole, .int .i64 s.long, .int .i64 s.prio] 26)) w.heap.size s) := Lib.hid (box_new w s)
  have HF := Lib.hid hf
  have HS := Lib.hid hs
  have HT := Lib.hid ht
  obtain ⟨e, he⟩ : ∃ e, endsS s t = e := ⟨_, rfl⟩
  have HE := Lib.hid he
  have HTB : Hid (timeB t = true) := Lib.hid (by unfold timeB; exact decide_eq_true (by omega))
  have d1 : (t == 4611686018427387904) = false := beq_eq_false_iff_ne.2 (by omega)
  have d2 : decide (u < e) = true := decide_eq_true (by rw [← he]; exact h2)
  clear h0 h1 h2
  have _u := hv
  clear _u hba hG hg hu hl hf hs ht hv he
  go_enter Tryd.func13, Tryd.ntmps13
  have q0 := BS.out.c0
  have q1 := BS.out.c1
  have q2 := BS.out.c2
  have q3 := BS.out.c3
  have q4 := BS.out.c4
  have q5 := BS.out.c5
  have q6 := BS.out.c6
  go_wp2_with fail
  refine (s7_ends HSP HS.out HG.out HT.out HE.out).mono ?_
  rintro e w1 ⟨rfl, hb⟩
  have HBq := Lib.hid (HB.out.trans (hb.mono HB.out.size))
  clear HB
  have HB := HBq
  clear HBq
  have HGq := Lib.hid (HG.out.next hb)
  clear HG
  have HG := HGq
  clear HGq
  have GAq := Lib.hid (GA.out.next hb)
  clear GA
  have GA := GAq
  clear GAq
  have UAq := Lib.hid (UA.out.next hb)
  clear UA
  have UA := UAq
  clear UAq
  have TAq := Lib.hid (TA.out.next hb)
  clear TA
  have TA := TAq
  clear TAq
  have BSq := Lib.hid (BS.out.next hb)
  clear BS
  have BS := BSq
  clear BSq
  clear hb
  clear q0 q1 q2 q3 q4 q5 q6
  go_wp2_with fail
  refine (time_b HTB.out).mono ?_
  rintro e w2 ⟨rfl, hb⟩
  have HBq := Lib.hid (HB.out.trans (hb.mono HB.out.size))
  clear HB
  have HB := HBq
  clear HBq
  have HGq := Lib.hid (HG.out.next hb)
  clear HG
  have HG := HGq
  clear HGq
  have GAq := Lib.hid (GA.out.next hb)
  clear GA
  have GA := GAq
  clear GAq
  have UAq := Lib.hid (UA.out.next hb)
  clear UA
  have UA := UAq
  clear UAq
  have TAq := Lib.hid (TA.out.next hb)
  clear TA
  have TA := TAq
  clear TAq
  have BSq := Lib.hid (BS.out.next hb)
  clear BS
  have BS := BSq
  clear BSq
  clear hb
  go_wp2
  go_ret2
  exact ⟨⟨none, 0, rfl, RI.nil, fun _ => rfl, Nat.le_refl _⟩, HB.out⟩
set_option maxRecDepth 100000 in
set_option maxHeartbeats 8000000 in
theorem slotAt_4 (HD : HeldOk) (HM : MatchOk) (HSP : SpecOk) {A A2 A3 : Option Addr} {n c n2 c2 n3 c3 : Nat} {g : Gr} {use : List Int} {l : Tb} {s : Sp} {t u : Int} {w : World} (hg : GAsk w A n c g) (hu : LAsk w A2 n2 c2 use) (hl : TAsk w A3 n3 c3 l) (hf : FewT l) (hs : SAsk s) (ht : I64 t) (hv : I64 u) (hG : Glob w) (hr : rightT l = true) (h0 : 0 ≤ t) (h1 : t < 4611686018427387904) (h2 : endsS s t ≤ u) : Calls Tryd.prog 13 #[.slice A n c, .slice A2 n2 c2, .slice A3 n3 c3, .agg #[.int .i64 s.nodes, .int .i64 s.cores, .int .i64 s.gpus, .string s.tag, .bool s.whole, .int .i64 s.long, .int .i64 s.prio], .int .i64 t, .int .i64 u] w (FPost (gotS g use l s u t) (decide (FitsS g use l s u t)) w) := by
  obtain ⟨f1, f2⟩ := at_had (g := g) (use := use) h0 h1 hr h2
  have hba : Below w.heap.size w (w.alloc (.cells #[.int .i64 s.nodes, .int .i64 s.cores, .int .i64 s.gpus, .string s.tag, .bool s.whole, .int .i64 s.long, .int .i64 s.prio] 26)) := (Below.refl _ _).alloc (Nat.le_refl _) _
  have HB := Lib.hid hba
  have HG := Lib.hid (hG.next hba)
  have GA := Lib.hid (hg.next hba)
  have UA := Lib.hid (hu.next hba)
  have TA := Lib.hid (hl.next hba)
  have BS : Hid (BoxS (w.alloc (.cells #[.int .i64 s.nodes, .int .i64 s.cores, .int .i64 s.gpus, .string s.tag, .bool s.whole, .int .i64 s.long, .int .i64 s.prio] 26)) w.heap.size s) := Lib.hid (box_new w s)
  have HF := Lib.hid hf
  have HS := Lib.hid hs
  have HT := Lib.hid ht
  obtain ⟨e, he⟩ : ∃ e, endsS s t = e := ⟨_, rfl⟩
  have HE := Lib.hid he
  rw [he] at f1 f2
  obtain ⟨bl, hbl⟩ : ∃ x, busyT l t e = x := ⟨_, rfl⟩
  have HBU := Lib.hid hbl
  have HBF : Hid (bl.length ≤ maxLen) := Lib.hid (by rw [← hbl]; exact Nat.le_trans (busy_len _ _ _) (by decide))
  rw [hbl] at f1 f2
  obtain ⟨ls, hls⟩ : ∃ x, lessL use bl = x := ⟨_, rfl⟩
  have HLS := Lib.hid hls
  have HLF : Hid (ls.length ≤ 300 ∧ ∀ x ∈ ls, I64 x) := Lib.hid ⟨by rw [← hls]; have := length_whichL 2 use bl; unfold lessL; omega, by rw [← hls]; exact less_i64⟩
  rw [hls] at f1 f2
  obtain ⟨fb, hfb⟩ : ∃ x, decide (FitsS g use l s u t) = x := ⟨_, rfl⟩
  obtain ⟨fl, hfl⟩ : ∃ x, gotS g use l s u t = x := ⟨_, rfl⟩
  rw [hfb] at f1 ⊢
  rw [hfl] at f2 ⊢
  have HFD := Lib.hid (And.intro f1 f2)
  have HUF : Hid (n2 ≤ maxLen) := Lib.hid (Nat.le_trans hu.few (by decide))
  have HTB : Hid (timeB t = true) := Lib.hid (by unfold timeB; exact decide_eq_true (by omega))
  have d1 : (t == 4611686018427387904) = false := beq_eq_false_iff_ne.2 (by omega)
  have d2 : decide (u < e) = false := decide_eq_false (by rw [← he]; omega)
  have _u := hv
  clear _u hba hG hg hu hl hf hs ht hv he hbl hls hfb hfl f1 f2 hr h0 h1 h2
  go_enter Tryd.func13, Tryd.ntmps13
  have q0 := BS.out.c0
  have q1 := BS.out.c1
  have q2 := BS.out.c2
  have q3 := BS.out.c3
  have q4 := BS.out.c4
  have q5 := BS.out.c5
  have q6 := BS.out.c6
  go_wp2_with fail
  refine (s7_ends HSP HS.out HG.out HT.out HE.out).mono ?_
  rintro e w1 ⟨rfl, hb⟩
  have HBq := Lib.hid (HB.out.trans (hb.mono HB.out.size))
  clear HB
  have HB := HBq
  clear HBq
  have HGq := Lib.hid (HG.out.next hb)
  clear HG
  have HG := HGq
  clear HGq
  have GAq := Lib.hid (GA.out.next hb)
  clear GA
  have GA := GAq
  clear GAq
  have UAq := Lib.hid (UA.out.next hb)
  clear UA
  have UA := UAq
  clear UAq
  have TAq := Lib.hid (TA.out.next hb)
  clear TA
  have TA := TAq
  clear TAq
  have BSq := Lib.hid (BS.out.next hb)
  clear BS
  have BS := BSq
  clear BSq
  clear hb
  clear q0 q1 q2 q3 q4 q5 q6
  go_wp2_with fail
  refine (time_b HTB.out).mono ?_
  rintro e w2 ⟨rfl, hb⟩
  have HBq := Lib.hid (HB.out.trans (hb.mono HB.out.size))
  clear HB
  have HB := HBq
  clear HBq
  have HGq := Lib.hid (HG.out.next hb)
  clear HG
  have HG := HGq
  clear HGq
  have GAq := Lib.hid (GA.out.next hb)
  clear GA
  have GA := GAq
  clear GAq
  have UAq := Lib.hid (UA.out.next hb)
  clear UA
  have UA := UAq
  clear UAq
  have TAq := Lib.hid (TA.out.next hb)
  clear TA
  have TA := TAq
  clear TAq
  have BSq := Lib.hid (BS.out.next hb)
  clear BS
  have BS := BSq
  clear BSq
  clear hb
  go_wp2_with fail
  have HKEEP : Hid (∀ wx, Below w2.drew.heap.size w2.drew wx → wx.cell? ⟨w.heap.size, 0, none⟩ = some (.int .i64 s.nodes) ∧ wx.cell? ⟨w.heap.size, 1, none⟩ = some (.int .i64 s.cores) ∧ wx.cell? ⟨w.heap.size, 2, none⟩ = some (.int .i64 s.gpus) ∧ wx.cell? ⟨w.heap.size, 3, none⟩ = some (.string s.tag) ∧ wx.cell? ⟨w.heap.size, 4, none⟩ = some (.bool s.whole) ∧ wx.cell? ⟨w.heap.size, 5, none⟩ = some (.int .i64 s.long) ∧ wx.cell? ⟨w.heap.size, 6, none⟩ = some (.int .i64 s.prio)) := Lib.hid (fun wx hz' => by
    have hz := (bel_drew1 w2).trans (hz'.mono (bel_drew1 w2).size)
    exact ⟨keep_cell BS.out.lt BS.out.c0 hz, keep_cell BS.out.lt BS.out.c1 hz, keep_cell BS.out.lt BS.out.c2 hz, keep_cell BS.out.lt BS.out.c3 hz, keep_cell BS.out.lt BS.out.c4 hz, keep_cell BS.out.lt BS.out.c5 hz, keep_cell BS.out.lt BS.out.c6 hz⟩)
  have hd := bel_drew1 w2
  have HBq := Lib.hid (HB.out.trans (hd.mono HB.out.size))
  clear HB
  have HB := HBq
  clear HBq
  have HGq := Lib.hid (HG.out.next hd)
  clear HG
  have HG := HGq
  clear HGq
  have GAq := Lib.hid (GA.out.next hd)
  clear GA
  have GA := GAq
  clear GAq
  have UAq := Lib.hid (UA.out.next hd)
  clear UA
  have UA := UAq
  clear UAq
  have TAq := Lib.hid (TA.out.next hd)
  clear TA
  have TA := TAq
  clear TAq
  have BSq := Lib.hid (BS.out.next hd)
  clear BS
  have BS := BSq
  clear BSq
  clear hd
  have HY := Lib.hid (Below.refl w2.drew.heap.size w2.drew)
  go_region_held3 (fun w' => w'.cell? ⟨w.heap.size, 0, none⟩ = some (.int .i64 s.nodes) ∧ w'.cell? ⟨w.heap.size, 1, none⟩ = some (.int .i64 s.cores) ∧ w'.cell? ⟨w.heap.size, 2, none⟩ = some (.int .i64 s.gpus) ∧ w'.cell? ⟨w.heap.size, 3, none⟩ = some (.string s.tag) ∧ w'.cell? ⟨w.heap.size, 4, none⟩ = some (.bool s.whole) ∧ w'.cell? ⟨w.heap.size, 5, none⟩ = some (.int .i64 s.long) ∧ w'.cell? ⟨w.heap.size, 6, none⟩ = some (.int .i64 s.prio))
    (first | exact HKEEP.out _ (Below.refl _ _) | exact HKEEP.out _ HY.out | exact HKEEP.out _ (HY.out.alloc HY.out.size _) | go_keep | fail)
    (first | (go_at_call 24; (with_reducible refine (h10_busy HD TA.out HF.out HBU.out).mono ?_); rintro e w3 ⟨⟨A5, c5, rfl, hr5, _, _⟩, hb⟩; have HY := Lib.hid (HY.out.trans (hb.mono HY.out.size)); have HB := Lib.hid (HB.out.trans (hb.mono HB.out.size)); have HG := Lib.hid (HG.out.next hb); have GA := Lib.hid (GA.out.next hb); have UA := Lib.hid (UA.out.next hb); have TA := Lib.hid (TA.out.next hb); have BS := Lib.hid (BS.out.next hb); have B5 := Lib.hid hr5; clear hb) | (go_at_call 23; (with_reducible refine (calls_ipost (s_less UA.out.reads B5.out HUF.out HBF.out HG.out) HLS.out).mono ?_); rintro e w4 ⟨⟨A6, c6, rfl, hr6, hn6, hc6⟩, hb⟩; have HY := Lib.hid (HY.out.trans (hb.mono HY.out.size)); have HB := Lib.hid (HB.out.trans (hb.mono HB.out.size)); have HG := Lib.hid (HG.out.next hb); have GA := Lib.hid (GA.out.next hb); have UA := Lib.hid (UA.out.next hb); have TA := Lib.hid (TA.out.next hb); have BS := Lib.hid (BS.out.next hb); have B5 := Lib.hid (B5.out.next hb); have L6 := Lib.hid (⟨hr6, hn6, hc6, HLF.out.1, HLF.out.2⟩ : LAsk _ A6 _ c6 ls); clear hb) | (go_at_call 22; (with_reducible refine (m9_find HM GA.out L6.out HS.out HG.out HFD.out.2 HFD.out.1).mono ?_); rintro e w5 ⟨⟨A7, c7, rfl, hr7, hn7, hc7⟩, hb⟩; have HN7 := Lib.hid hn7; have HC7 := Lib.hid hc7; have HY := Lib.hid (HY.out.trans (hb.mono HY.out.size)); have HB := Lib.hid (HB.out.trans (hb.mono HB.out.size)); have HG := Lib.hid (HG.out.next hb); have GA := Lib.hid (GA.out.next hb); have UA := Lib.hid (UA.out.next hb); have TA := Lib.hid (TA.out.next hb); have BS := Lib.hid (BS.out.next hb); have B5 := Lib.hid (B5.out.next hb); have L6 := Lib.hid (L6.out.next hb); have R7 := Lib.hid hr7; clear hb) | fail)
  clear HKEEP HY
  go_wp2
  go_ret2
  exact ⟨⟨A7, c7, rfl, R7.out, HN7.out, HC7.out⟩, HB.out⟩
theorem slotAt_any (HD : HeldOk) (HM : MatchOk) (HSP : SpecOk) {A A2 A3 : Option Addr} {n c n2 c2 n3 c3 : Nat} {g : Gr} {use : List Int} {l : Tb} {s : Sp} {t u : Int} {w : World} (hg : GAsk w A n c g) (hu : LAsk w A2 n2 c2 use) (hl : TAsk w A3 n3 c3 l) (hf : FewT l) (hs : SAsk s) (ht : I64 t) (hv : I64 u) (hG : Glob w) (hr : rightT l = true) : Calls Tryd.prog 13 #[.slice A n c, .slice A2 n2 c2, .slice A3 n3 c3, .agg #[.int .i64 s.nodes, .int .i64 s.cores, .int .i64 s.gpus, .string s.tag, .bool s.whole, .int .i64 s.long, .int .i64 s.prio], .int .i64 t, .int .i64 u] w (FPost (gotS g use l s u t) (decide (FitsS g use l s u t)) w) := by
  have no : ¬ FitsS g use l s u t → gotS g use l s u t = [] ∧ decide (FitsS g use l s u t) = false := fun h => ⟨gotS_no h, decide_eq_false h⟩
  by_cases h0 : 0 ≤ t ∧ t ≤ 4611686018427387904
  · by_cases h1 : t = 4611686018427387904
    · obtain ⟨e1, e2⟩ := no (fits_not (.inl (by omega)))
      rw [e1, e2]; exact slotAt_2 HSP hg hu hl hf hs ht hv hG h1
    · by_cases h2 : u < endsS s t
      · obtain ⟨e1, e2⟩ := no (fits_not (.inr h2))
        rw [e1, e2]; exact slotAt_3 HSP hg hu hl hf hs ht hv hG h0.1 (by omega) h2
      · exact slotAt_4 HD HM HSP hg hu hl hf hs ht hv hG hr h0.1 (by omega) (by omega)
  · obtain ⟨e1, e2⟩ := no (fits_not (.inl (by omega)))
    rw [e1, e2]; exact slotAt_1 HSP hg hu hl hf hs ht hv hG h0

end Go.Proofs.YtpoalgkgomljmaaDoor

namespace Go.Proofs.YtpoalgkgomljmaaDoor
open Go.RowKit

/-- a row that grows keeps all that is not its own -/
structure Keeps (wr : World) (v : Value) (w' : World) (v' : Value) : Prop where
  block : ∀ b, b < wr.heap.size → v.ownBlock ≠ some b → w'.heap[b]? = wr.heap[b]?
  size : wr.heap.size ≤ w'.heap.size
  own : v'.ownBlock = v.ownBlock ∨ ∀ b, v'.ownBlock = some b → wr.heap.size ≤ b
theorem Keeps.refl (w : World) (v : Value) : Keeps w v w v := ⟨fun _ _ _ => rfl, Nat.le_refl _, .inl rfl⟩
theorem Keeps.trans {w w1 w2 : World} {v v1 v2 : Value} (h : Keeps w v w1 v1) (k : Keeps w1 v1 w2 v2) : Keeps w v w2 v2 := by
  refine ⟨fun b hb hv => (k.block b (Nat.lt_of_lt_of_le hb h.size) (fun e => ?_)).trans (h.block b hb hv), Nat.le_trans h.size k.size, ?_⟩
  · rcases h.own with h1 | h1
    · exact hv (h1.symm.trans e)
    · have := h1 b e; omega
  · rcases k.own with h2 | h2
    · rcases h.own with h1 | h1
      · exact .inl (h2.trans h1)
      · exact .inr fun b hb => h1 b (by rw [← h2]; exact hb)
    · exact .inr fun b hb => Nat.le_trans h.size (h2 b hb)

/-- an owned row that reads as xs, in a world that keeps all that was there in w; what its elements reach was there in w -/
def OB {α : Type} (E : Elem α) (C : Nat) (t : TypeId) (w : World) (v : Value) (xs : List α) (wr : World) : Prop :=
  ∃ fl : List Value, wr.ownsRow w.heap.size t C v xs.length fl ∧ Below w.heap.size w wr ∧
    ∀ j x, xs[j]? = some x → E wr (Lt w.heap.size) x ((fl.drop (j * C)).take C)
section
variable {α : Type} {E : Elem α} {C : Nat} {t : TypeId} {w w1 w2 wr : World} {v v' v2 : Value} {xs ys : List α}
theorem OB.nil (w : World) (hb : Below w.heap.size w wr) : OB E C t w (.slice none 0 0) [] wr := ⟨[], by simpa using World.ownsRow_nil wr w.heap.size t C, hb, fun j x h => by simp at h⟩
theorem OB.below (h : OB E C t w v xs wr) : Below w.heap.size w wr := let ⟨_, _, h2, _⟩ := h; h2
theorem OB.on (hE : Steady E) (h : OB E C t w v xs wr) : ON E C t w v xs wr := by
  obtain ⟨fl, h1, h2, h3⟩ := h
  refine ⟨fl, h1, h2, fun j x hx => hE.keep (h3 j x hx) (fun _ _ => rfl) (fun b (hb : b < w.heap.size) => ⟨Nat.lt_of_lt_of_le hb h2.size, fun e => ?_⟩)⟩
  have := (h1.lt b e).1
  omega
/-- another row has grown, or new memory was made -/
theorem OB.keep (hE : Steady E) (h : OB E C t w v xs wr) (hb : Below w.heap.size w w1) (hk : ∀ g, v.ownBlock = some g → w1.heap[g]? = wr.heap[g]?) : OB E C t w v xs w1 := by
  obtain ⟨fl, h1, h2, h3⟩ := h
  refine ⟨fl, ⟨h1.1, h1.2.imp id ?_⟩, hb, fun j x hx => hE.keep (h3 j x hx) (fun b (hb' : b < w.heap.size) => (hb.block b hb').trans (h2.block b hb').symm) (fun _ hb' => hb')⟩
  rintro ⟨g, cap, cur, e1, e2, e3, e4⟩
  exact ⟨g, cap, cur, e1, e2, (hk g (by rw [e1]; rfl)).trans e3, e4⟩
theorem OB.next (hE : Steady E) (h : OB E C t w v xs wr) (hb : Below wr.heap.size wr w1) : OB E C t w v xs w1 :=
  h.keep hE (h.below.trans (hb.mono h.below.size)) fun g hg => by
    obtain ⟨fl, h1, _⟩ := h
    exact hb.block g (h1.lt g hg).2
/-- the rows' blocks are two -/
def Apart2 (v v2 : Value) : Prop := ∀ g, v.ownBlock = some g → v2.ownBlock ≠ some g
theorem Apart2.comm (h : Apart2 v v2) : Apart2 v2 v := fun g h1 h2 => h g h2 h1
theorem OB.keeps (hE : Steady E) (h2 : OB E C t w v2 ys wr) (hb : Below w.heap.size w w1) (hk : Keeps wr v w1 v') (ha : Apart2 v v2) : OB E C t w v2 ys w1 ∧ Apart2 v' v2 := by
  obtain ⟨fl, h3, _⟩ := id h2
  refine ⟨h2.keep hE hb fun g hg => hk.block g (h3.lt g hg).2 (fun e => ha g e hg), fun g hg hg2 => ?_⟩
  rcases hk.own with e | e
  · rw [e] at hg; exact ha g hg hg2
  · have := e g hg
    have := (h3.lt g hg2).2
    omega
/-- 'out = append(out, x)': x has been laid into a block of its own -/
theorem wpList_append_OB {P : Program} {ops : Array Oper} {rest : List Oper} {o : Oper} {a : Act} {Q : Exit → Act → World → Prop} (hgd : o.guard = none) (s x : Operand) (ty : TypeId)
    (ho : o.op = .call { callee := .builtin .append, args := #[s, x], argTypes := #[ty, ty] })
    (hE : Steady E) (h : OB E C t w v xs wr) (i : TypeInfo) (z : Value) (bytes : Nat) (ht : P.underlying ty = some (.slice t)) (hi : P.info? t = some i) (hz : i.zero = some z)
    (hsize : i.size = C) (hby : i.bytes = bytes) (hzs : z.cells.size = C) (hsz : 0 < C)
    (hs : a.eval s = v) (x0 : α) (cs : Array Value) (hx : a.eval x = .slice (some ⟨wr.heap.size, 0, none⟩) 1 1) (hl : cs.toList.length = C) (h1 : ∀ u ∈ cs.toList, u.oneCell' = true)
    (he : E wr (Lt w.heap.size) x0 cs.toList)
    (h63 : xs.length + 1 ≤ maxLen) (hbytes : (xs.length + 1) * bytes ≤ 140737488355328)
    (hk : ∀ v' w', OB E C t w v' (xs ++ [x0]) w' → Keeps wr v w' v' → wpList P ops Q rest (a.put o.dst v') w') : wpList P ops Q (o :: rest) a (wr.alloc (.cells cs t)) := by
  have hB := h.below
  obtain ⟨fl, h2, _, h4⟩ := id h
  refine wpList_append_lies (wr.alloc (.cells cs t)) hgd s x ty ho w.heap.size t i z C bytes ht hi hz hsize hby hzs hsz v xs.length fl hs (h2.alloc _) ⟨wr.heap.size, 0, none⟩ 1 1 cs.toList hx (by rw [hl]; omega)
    (World.news_of_block (cs := cs) (t := t) (fr := (0, 0)) (heap_alloc_new wr _)) h1 (by omega) h63 hbytes (by have := hB.size; simp; omega) _ rfl ?_
  intro g cap w2 hown' hgrow hat hlt
  have hsw : wr.heap.size ≤ w2.heap.size := by have := hgrow.size; simp at this; omega
  have hbel : Below w.heap.size w w2 := (hB.alloc hB.size _).grown hgrow (by have := hB.size; simp; omega) (fun j hj => (h2.lt j hj).1)
  refine hk _ _ ⟨fl ++ cs.toList, by rw [List.length_append]; exact hown', hbel, fun j y hy => ?_⟩ ⟨fun b hb hv => (hgrow.block b (by simp; omega) (fun e => hv e.symm)).trans (Below.heap_alloc wr _ b hb), hsw, ?_⟩
  · have keep : ∀ {y : α} {us : List Value}, E wr (Lt w.heap.size) y us → E w2 (Lt w.heap.size) y us := fun h => hE.keep h (fun b (hb : b < w.heap.size) => (hbel.block b hb).trans (hB.block b hb).symm) (fun _ hb => hb)
    have hfll := h2.1
    rcases Nat.lt_trichotomy j xs.length with hj | hj | hj
    · rw [List.getElem?_append_left hj] at hy
      have e := keep (h4 j y hy)
      have hlen : j * C + C ≤ fl.length := by rw [hfll, ← Nat.succ_mul]; exact Nat.mul_le_mul_right C hj
      rw [List.drop_append_of_le_length (by omega), List.take_append_of_le_length (by rw [List.length_drop]; omega)]
      exact e
    · subst hj
      rw [List.getElem?_append_right (Nat.le_refl _)] at hy
      simp at hy
      subst hy
      rw [← hfll, List.drop_append_of_le_length (Nat.le_refl _), List.drop_length, List.nil_append, List.take_of_length_le (by omega)]
      exact keep he
    · rw [List.getElem?_eq_none (by rw [List.length_append]; simp; omega)] at hy
      cases hy
  · rcases hat with h5 | h5
    · exact .inl h5.symm
    · refine .inr fun b hb => ?_
      have hb' : g = b := by simpa [Value.ownBlock] using hb
      rw [← hb', h5]; simp
end

end Go.Proofs.YtpoalgkgomljmaaDoor

namespace Go.Proofs.YtpoalgkgomljmaaDoor
open Go.RowKit

theorem run_copy_rowN {P : Program} (w : World) (dT sT ty elem : TypeId) (g o dLen dCap : Nat) (a : Addr) (sLen sCap : Nat) (cur : Array Value) (t : TypeId) (cs : List Value) (size : Nat)
    (hu : P.underlying dT = some (.slice elem)) (hs : (P.info? elem).map (·.size) = some size)
    (hg : w.heap[g]? = some (.cells cur t (0, 0))) (hn : cs.length = Nat.min sLen dLen * size)
    (hsrc : ∀ j v, cs[j]? = some v → w.cell? (a.add j) = some v) (hfit : o + cs.length ≤ cur.size) (h1 : ∀ v ∈ cs, v.oneCell' = true) :
    (Builtin.copy_ #[dT, sT] ty #[.slice (some ⟨g, o, none⟩) dLen dCap, .slice (some a) sLen sCap]).run P w =
      .ok (goInt (Nat.min sLen dLen : Nat)) (w.setRow g (cur.toList.take o ++ cs ++ cur.toList.drop (o + cs.length)).toArray) := by
  have hl := run_loadCells_list (P := P) w a cs hsrc
  have hst := run_storeCells_at P g o t cs 0 cur w hg (by simpa using hfit) h1
  cases hq : P.info? elem with
  | none => simp [hq] at hs
  | some i =>
    have hi : i.size = size := by simpa [hq] using hs
    have hl' : (loadCells a (Nat.min sLen dLen * size)).run P w = .ok cs.toArray w := by rw [← hn]; exact hl
    simp [Builtin.copy_, run_underlying hu, Builtin.lenOf, Builtin.firstCells, sizeOf, typeInfo, hq, hi, hl', hst]

/-- what is known behind a copy: the row, all other blocks, and what lies below -/
structure Copied (B : Nat) (w0 w : World) (g : Nat) (L : List Value) (t : TypeId) (w' : World) : Prop where
  row : w'.heap[g]? = some (.cells L.toArray t (0, 0))
  other : ∀ k, k ≠ g → w'.heap[k]? = w.heap[k]?
  below : Below B w0 w'
  size : w'.heap.size = w.heap.size
theorem copied_row {B : Nat} {w0 w : World} {g : Nat} {L : List Value} {t : TypeId} {cur : List Value} (hg : w.heap[g]? = some (.cells cur.toArray t (0, 0))) (hb : Below B w0 w) (hBg : B ≤ g) : Copied B w0 w g L t (w.setRow g L.toArray) :=
  ⟨setRow_heap w g _ _ t _ hg, fun k hk => setRow_other w g k _ hk, Go.below_setRow hb hBg _, by simp [World.setRow]⟩

theorem wpList_copy_rowN {P : Program} {w : World} {ops : Array Oper} {rest : List Oper} {o : Oper} {a : Act} {Q : Exit → Act → World → Prop} (hgd : o.guard = none) (d s : Operand) (dT sT : TypeId)
    (ho : o.op = .call { callee := .builtin .copy, args := #[d, s], argTypes := #[dT, sT] }) (elem : TypeId) (hu : P.underlying dT = some (.slice elem)) (size : Nat) (hsz : (P.info? elem).map (·.size) = some size)
    (g off dLen dCap : Nat) (ad : Addr) (sLen sCap : Nat) (hd : a.eval d = .slice (some ⟨g, off, none⟩) dLen dCap) (hs : a.eval s = .slice (some ad) sLen sCap)
    (cur : List Value) (t : TypeId) (hg : w.heap[g]? = some (.cells cur.toArray t (0, 0))) (cs : List Value) (hn : cs.length = Nat.min sLen dLen * size)
    (hsrc : ∀ j v, cs[j]? = some v → w.cell? (ad.add j) = some v) (hfit : off + cs.length ≤ cur.length) (h1 : ∀ v ∈ cs, v.oneCell' = true) (B : Nat) (w0 : World) (hb : Below B w0 w) (hBg : B ≤ g)
    (off' : Nat) (hoff : off = off')
    (h : ∀ w', Hid (Copied B w0 w g (splice cur off' cs) t w') → wpList P ops Q rest (a.put o.dst (goInt (Nat.min sLen dLen : Nat))) w') : wpList P ops Q (o :: rest) a w := by
  subst hoff
  refine wpList_plain hgd fun K hK => ?_
  have hrun := run_copy_rowN (P := P) w dT sT o.type elem g off dLen dCap ad sLen sCap cur.toArray t cs size hu hsz hg hn hsrc (by simpa using hfit) h1
  unfold Oper.wp
  simp only [execOp, ho, resolve, invoke, builtin, Sem.run_bind, Sem.run_pure, Result.andThen_ok, List.map_toArray, List.map_cons, List.map_nil, hd, hs, hrun]
  refine hK _ _ (h _ (Lib.hid ?_))
  have := copied_row (L := splice cur off cs) hg hb hBg
  simpa [splice] using this
theorem step_copy_rowN {P : Program} {ops : Array Oper} {o : Oper} {a : Act} {w : World} {K : Act → World → Prop} {Q : Exit → Act → World → Prop} {E : Prop} (hgd : o.guard = none) (d s : Operand) (dT sT : TypeId)
    (ho : o.op = .call { callee := .builtin .copy, args := #[d, s], argTypes := #[dT, sT] }) (elem : TypeId) (hu : P.underlying dT = some (.slice elem)) (size : Nat) (hsz : (P.info? elem).map (·.size) = some size)
    (g off dLen dCap : Nat) (ad : Addr) (sLen sCap : Nat) (hd : a.eval d = .slice (some ⟨g, off, none⟩) dLen dCap) (hs : a.eval s = .slice (some ad) sLen sCap)
    (cur : List Value) (t : TypeId) (hg : w.heap[g]? = some (.cells cur.toArray t (0, 0))) (cs : List Value) (hn : cs.length = Nat.min sLen dLen * size)
    (hsrc : ∀ j v, cs[j]? = some v → w.cell? (ad.add j) = some v) (hfit : off + cs.length ≤ cur.length) (h1 : ∀ v ∈ cs, v.oneCell' = true) (B : Nat) (w0 : World) (hb : Below B w0 w) (hBg : B ≤ g)
    (off' : Nat) (hoff : off = off')
    (h : ∀ w', Hid (Copied B w0 w g (splice cur off' cs) t w') → K (a.put o.dst (goInt (Nat.min sLen dLen : Nat))) w') :
    if Region.wanted o (yielded ops a.tmps) = true then Oper.wp P o a w K Q else E := by
  subst hoff
  have hw : Region.wanted o (yielded ops a.tmps) = true := by simp [Region.wanted, hgd]
  rw [if_pos hw]
  have hrun := run_copy_rowN (P := P) w dT sT o.type elem g off dLen dCap ad sLen sCap cur.toArray t cs size hu hsz hg hn hsrc (by simpa using hfit) h1
  unfold Oper.wp
  simp only [execOp, ho, resolve, invoke, builtin, Sem.run_bind, Sem.run_pure, Result.andThen_ok, List.map_toArray, List.map_cons, List.map_nil, hd, hs, hrun]
  refine h _ (Lib.hid ?_)
  have := copied_row (L := splice cur off cs) hg hb hBg
  simpa [splice] using this

/-- a row whose tail goes up to make room, and what comes is laid there -/
theorem splice_shift {α : Type} {L c v : List α} {m : Nat} (hc : L.take c.length = c) (hm : m ≤ c.length) (hfit : c.length + v.length ≤ L.length) :
    (splice (splice L (m + v.length) (c.drop m)) m v).take (c.length + v.length) = c.take m ++ (v ++ c.drop m) := by
  have e1 : (splice L (m + v.length) (c.drop m)).take m = c.take m := by
    unfold splice
    rw [List.take_append_of_le_length (by rw [List.length_take]; omega), List.take_take, Nat.min_eq_left (by omega)]
    have := congrArg (List.take m) hc
    rwa [List.take_take, Nat.min_eq_left hm] at this
  have hl : (L.take (m + v.length)).length = m + v.length := by rw [List.length_take]; omega
  have e2 : (splice L (m + v.length) (c.drop m)).drop (m + v.length) = c.drop m ++ L.drop (m + v.length + (c.drop m).length) := by
    unfold splice
    rw [List.drop_append_of_le_length (by omega), List.drop_of_length_le (by omega), List.nil_append]
  show ((splice L (m + v.length) (c.drop m)).take m ++ (v ++ (splice L (m + v.length) (c.drop m)).drop (m + v.length))).take (c.length + v.length) = _
  rw [e1, e2, ← List.append_assoc v, ← List.append_assoc, ← List.append_assoc]
  rw [List.take_append_of_le_length (by simp; omega), List.take_of_length_le (by simp; omega), List.append_assoc]
/-- a new row's head, with what comes and the rest laid behind it -/
theorem splice_fill {α : Type} {L a v d : List α} (ha : L.take a.length = a) (_ : a.length + v.length + d.length ≤ L.length) :
    (splice (splice L a.length v) (a.length + v.length) d).take (a.length + v.length + d.length) = a ++ (v ++ d) := by
  have e1 : (splice L a.length v).take (a.length + v.length) = a ++ v := by
    unfold splice
    rw [ha, ← List.append_assoc, List.take_append_of_le_length (by simp), List.take_of_length_le (by simp)]
  show ((splice L a.length v).take (a.length + v.length) ++ (d ++ _)).take _ = _
  rw [e1, ← List.append_assoc, List.take_append_of_le_length (by simp; omega), List.take_of_length_le (by simp; omega), List.append_assoc]

end Go.Proofs.YtpoalgkgomljmaaDoor

namespace Go.Proofs.YtpoalgkgomljmaaDoor
open Go.RowKit

/-- the row behind an Insert or a Delete; all other blocks are kept -/
def InsQ (base n : Nat) (fl : List Value) (v : Value) (w : World) (e : Ending) (w' : World) : Prop :=
  ∃ v', e = .returned v' ∧ w'.ownsRow base 39 4 v' n fl ∧ Below base w w' ∧ Keeps w v w' v'
theorem held_size : (Tryd.prog.info? 39).map (·.size) = some 4 := by kernel_rfl
theorem add_off (b j k : Nat) : (⟨b, j, none⟩ : Addr).add k = ⟨b, j + k, none⟩ := by unfold Addr.add; split <;> simp_all

section
variable {base g cap n i vb : Nat} {fl cur : List Value} {v0 v1 v2 v3 : Value} {w : World}
theorem four_at {W : World} (hv : W.heap[vb]? = some (.cells #[v0, v1, v2, v3] 39 (0, 0))) : ∀ j u, ([v0, v1, v2, v3] : List Value)[j]? = some u → W.cell? ((⟨vb, 0, none⟩ : Addr).add j) = some u := by
  intro j u hj
  rw [add_off, cell_of_row W vb (0 + j) _ _ (0, 0) hv, Nat.zero_add]
  match j, hj with
  | 0, hj => exact hj
  | 1, hj => exact hj
  | 2, hj => exact hj
  | 3, hj => exact hj

end




end Go.Proofs.YtpoalgkgomljmaaDoor

namespace Go.Proofs.YtpoalgkgomljmaaDoor
open Go.RowKit

theorem setCells_row {g : Nat} {T : TypeId} : ∀ (vs : List Value) (o : Nat) (cur : Array Value) (w : World), w.heap[g]? = some (.cells cur T (0, 0)) → (w.setCells g o vs).heap[g]? = some (.cells (Go.Sort.setMany cur o vs) T (0, 0))
  | [], _, _, _, h => h
  | v :: r, o, cur, w, h => by
    rw [World.setCells, Go.Sort.setMany]
    exact setCells_row r (o + 1) _ _ (by
      show (w.heap.modify g _)[g]? = _
      rw [Array.getElem?_modify, if_pos rfl, h]
      rfl)
theorem setCells_other {g b : Nat} (hb : b ≠ g) : ∀ (vs : List Value) (o : Nat) (w : World), (w.setCells g o vs).heap[b]? = w.heap[b]?
  | [], _, _ => rfl
  | v :: r, o, w => by
    rw [World.setCells, setCells_other hb r]
    exact Below.heap_setCell _ _ _ _ hb
theorem setCells_size {g : Nat} : ∀ (vs : List Value) (o : Nat) (w : World), (w.setCells g o vs).heap.size = w.heap.size
  | [], _, _ => rfl
  | v :: r, o, w => by
    rw [World.setCells, setCells_size r]
    simp [World.setCell]
theorem setCells_below {B g : Nat} {w0 : World} (hg : B ≤ g) : ∀ (vs : List Value) (o : Nat) (w : World), Below B w0 w → Below B w0 (w.setCells g o vs)
  | [], _, _, h => h
  | v :: r, o, w, h => by
    rw [World.setCells]
    exact setCells_below hg r (o + 1) _ (h.setCell (p := ⟨g, o, none⟩) hg v)
/-- one holding is cleared -/
theorem clear_held (w : World) (ty : TypeId) {b o n c : Nat} (hn : n = 1) (hc : ∀ j, j < 4 → (w.cell? ⟨b, o + j, none⟩).isSome = true) (hf : ∀ j, j < 4 → w.frozen? ⟨b, o + j, none⟩ = false) :
    (Builtin.clear_ #[24] ty #[.slice (some ⟨b, o, none⟩) n c]).run Tryd.prog w = .ok (.tuple #[]) (w.setCells b o [.int .i64 0, .slice none 0 0, .int .i64 0, .int .i64 0]) := by
  subst hn
  have hst := run_storeCells_cells (P := Tryd.prog) b o [.int .i64 0, .slice none 0 0, .int .i64 0, .int .i64 0] 0 w (by simpa using hc) (by simpa using hf) (by intro v hv; simp at hv; rcases hv with rfl | rfl | rfl | rfl <;> rfl)
  simp only [Nat.add_zero] at hst
  have hzc : (Builtin.zeroCells (Value.agg #[.int .i64 0, .slice none 0 0, .int .i64 0, .int .i64 0]).cells 1).toList = [.int .i64 0, .slice none 0 0, .int .i64 0, .int .i64 0] := by
    apply List.ext_getElem?
    intro t
    match t with
    | 0 => simp [Builtin.zeroCells, Value.cells]
    | 1 => simp [Builtin.zeroCells, Value.cells]
    | 2 => simp [Builtin.zeroCells, Value.cells]
    | 3 => simp [Builtin.zeroCells, Value.cells]
    | t + 4 => simp [Builtin.zeroCells, Value.cells]
  have hz : ∀ w, (zeroValue 39).run Tryd.prog w = .ok (.agg #[.int .i64 0, .slice none 0 0, .int .i64 0, .int .i64 0]) w := Tryd.zeroValue39
  simp [Builtin.clear_, run_underlying Tryd.underlying24, hz, hzc, hst]


end Go.Proofs.YtpoalgkgomljmaaDoor
