/- The program's Kinds of layer 5 (graph): what it answers of any list of things and any list of numbers. -/
import Derived.Test.YtokjinihdanhbaaGraphPList
namespace Go.Proofs.Ytokjinihdanhbaa
open Go.RowKit

/-- how many of the first i numbers are things of this kind -/
def cntL (g : Gr) (l : List Int) (c : Int) (i : Nat) : Nat := ((l.take i).filter fun x => decide (x < (g.length : Int)) && gk g x.toNat == c).length
theorem cntL_succ (g : Gr) (l : List Int) (c : Int) {i : Nat} (hi : i < l.length) : cntL g l c (i + 1) = cntL g l c i + (if l.getD i 0 < (g.length : Int) ∧ gk g (l.getD i 0).toNat = c then 1 else 0) := by
  unfold cntL
  rw [List.take_succ_eq_append_getElem hi, List.filter_append, List.length_append]
  have e : l.getD i 0 = l[i] := by rw [List.getD, List.getElem?_eq_getElem hi]; rfl
  rw [e]
  congr 1
  by_cases h : l[i] < (g.length : Int) ∧ gk g l[i].toNat = c
  · rw [if_pos h]; simp [h.1, h.2]
  · rw [if_neg h]
    rw [List.filter_eq_nil_iff.2]
    · rfl
    · intro x hx
      simp at hx
      subst hx
      intro h'
      rw [Bool.and_eq_true, beq_iff_eq, decide_eq_true_eq] at h'
      exact h h'
theorem cntL_le (g : Gr) (l : List Int) (c : Int) (i : Nat) : cntL g l c i ≤ i := by
  unfold cntL
  have := List.length_filter_le (fun x => decide (x < (g.length : Int)) && gk g x.toNat == c) (l.take i)
  have h2 := List.length_take_le i l
  omega
/-- a set, as the numbers that are in it -/
theorem set_nums {l : List Int} (h : rightB l = true) : l = numsF (fun k => l.contains (k : Int)) 256 := by
  refine right_ext h (numsF_right _ (Nat.le_refl _)) fun n => ?_
  rw [mem_numsF]
  constructor
  · intro hn
    have := right_mem h n hn
    exact ⟨n.toNat, by omega, by rw [List.contains_iff_mem, Int.toNat_of_nonneg this.1]; exact hn, by omega⟩
  · rintro ⟨k, _, hk, rfl⟩
    rwa [List.contains_iff_mem] at hk
/-- counted along a set, or along the things: the same -/
theorem cntL_all {g : Gr} {l : List Int} (h : rightB l = true) (hg : g.length ≤ 256) (c : Int) : cntL g l c l.length = cntK g l c g.length := by
  have key : ∀ m, g.length ≤ m → ((numsF (fun k => l.contains (k : Int)) m).filter fun x => decide (x < (g.length : Int)) && gk g x.toNat == c).length = cntK g l c g.length := by
    intro m hm
    unfold numsF cntK
    rw [List.filter_map, List.length_map, List.filter_filter]
    have e : ∀ m, g.length ≤ m → ((List.range m).filter fun k : Nat => (decide ((k : Int) < (g.length : Int)) && gk g ((k : Int)).toNat == c) && l.contains (k : Int)) = (List.range g.length).filter fun k : Nat => hasB l (k : Int) && gk g k == c := by
      intro m hm
      induction m with
      | zero =>
        have : g.length = 0 := by omega
        rw [this]; rfl
      | succ m ih =>
        by_cases hl : g.length = m + 1
        · rw [hl]
          apply List.filter_congr
          intro k hk
          have := List.mem_range.1 hk
          rw [decide_eq_true (by omega), Int.toNat_natCast]
          unfold hasB
          rw [h, Bool.true_and, Bool.true_and, Bool.and_comm]
        · rw [List.range_succ, List.filter_append, ih (by omega)]
          rw [show List.filter (fun k : Nat => (decide ((k : Int) < (g.length : Int)) && gk g ((k : Int)).toNat == c) && l.contains (k : Int)) [m] = [] from by
            rw [List.filter_eq_nil_iff]
            intro x hx
            simp at hx
            subst hx
            rw [decide_eq_false (by omega)]
            simp]
          rw [List.append_nil]
    exact congrArg List.length (e m hm)
  unfold cntL
  rw [List.take_length]
  conv => lhs; rw [set_nums h]
  exact key 256 hg
theorem kVal_zero {g : Gr} {l : List Int} (h : rightG g = false ∨ rightB l = false) : kVal g l = .agg #[.int .i64 0, .int .i64 0, .int .i64 0, .int .i64 0, .int .i64 0] := by
  have e : ∀ c, kc g l c = 0 := fun c => by
    unfold kc
    rcases h with h | h
    · rw [h]; rfl
    · split
      · have : cntK g l c g.length = 0 := by
          unfold cntK
          rw [List.filter_eq_nil_iff.2 (fun x _ => by unfold hasB; rw [h]; simp)]
          rfl
        rw [this]; rfl
      · rfl
  unfold kVal
  rw [e, e, e, e, e]

/-- five counts as an array's cells, behind the first i numbers -/
def lArr (g : Gr) (l : List Int) (i : Nat) : Array Value := #[.int .i64 (cntL g l 0 i), .int .i64 (cntL g l 1 i), .int .i64 (cntL g l 2 i), .int .i64 (cntL g l 3 i), .int .i64 (cntL g l 4 i)]
/-- the two arrays -/
structure LRel (g : Gr) (l : List Int) (w : World) (i : Nat) (wr : World) : Prop where
  res : wr.heap[w.heap.size]? = some (.cells #[.int .i64 0, .int .i64 0, .int .i64 0, .int .i64 0, .int .i64 0] 29 (0, 0))
  cnt : wr.heap[w.heap.size + 1]? = some (.cells (lArr g l i) 29 (0, 0))
  bel : Below w.heap.size w wr
theorem lArr_zero (g : Gr) (l : List Int) : lArr g l 0 = #[.int .i64 0, .int .i64 0, .int .i64 0, .int .i64 0, .int .i64 0] := by simp [lArr, cntL]
theorem lrel_made (g : Gr) (l : List Int) (w : World) : LRel g l w 0 ((w.alloc (.cells #[.int .i64 0, .int .i64 0, .int .i64 0, .int .i64 0, .int .i64 0] 29)).alloc (.cells #[.int .i64 0, .int .i64 0, .int .i64 0, .int .i64 0, .int .i64 0] 29)) := by
  refine ⟨?_, ?_, ((Below.refl _ _).alloc (Nat.le_refl _) _).alloc (by simp) _⟩
  · rw [Below.heap_alloc _ _ _ (by simp)]; exact heap_alloc_new w _
  · rw [lArr_zero]
    have := heap_alloc_new (w.alloc (.cells #[.int .i64 0, .int .i64 0, .int .i64 0, .int .i64 0, .int .i64 0] 29)) (.cells #[.int .i64 0, .int .i64 0, .int .i64 0, .int .i64 0, .int .i64 0] 29)
    simpa using this
theorem LRel.lt {g : Gr} {l : List Int} {w wr : World} {i : Nat} (h : LRel g l w i wr) : w.heap.size + 1 < wr.heap.size := (Array.getElem?_eq_some_iff.1 h.cnt).1
theorem LRel.next {g : Gr} {l : List Int} {w wr w' : World} {i : Nat} (h : LRel g l w i wr) (hb : Below wr.heap.size wr w') : LRel g l w i w' :=
  ⟨(hb.block _ (by have := h.lt; omega)).trans h.res, (hb.block _ h.lt).trans h.cnt, h.bel.trans (hb.mono h.bel.size)⟩
theorem LRel.no {g : Gr} {l : List Int} {w wr : World} {i : Nat} (h : LRel g l w i wr) (hi : i < l.length) (hh : ¬ l.getD i 0 < (g.length : Int)) : LRel g l w (i + 1) wr := by
  have e : lArr g l (i + 1) = lArr g l i := by
    unfold lArr
    rw [cntL_succ g l 0 hi, cntL_succ g l 1 hi, cntL_succ g l 2 hi, cntL_succ g l 3 hi, cntL_succ g l 4 hi, if_neg (fun h' => hh h'.1), if_neg (fun h' => hh h'.1), if_neg (fun h' => hh h'.1), if_neg (fun h' => hh h'.1), if_neg (fun h' => hh h'.1)]
    rfl
  exact ⟨h.res, by rw [e]; exact h.cnt, h.bel⟩
theorem LRel.yes {g : Gr} {l : List Int} {w wr : World} {i q : Nat} (h : LRel g l w i wr) (hi : i < l.length) (hh : l.getD i 0 < (g.length : Int)) (hq : gk g (l.getD i 0).toNat = q) (h5 : q < 5) : LRel g l w (i + 1) (wr.setCell ⟨w.heap.size + 1, q, none⟩ (.int .i64 ((cntL g l q i : Int) + 1))) := by
  have e : (lArr g l i).setIfInBounds q (.int .i64 ((cntL g l q i : Int) + 1)) = lArr g l (i + 1) := by
    unfold lArr
    rw [cntL_succ g l 0 hi, cntL_succ g l 1 hi, cntL_succ g l 2 hi, cntL_succ g l 3 hi, cntL_succ g l 4 hi]
    rw [hq]
    rcases (show q = 0 ∨ q = 1 ∨ q = 2 ∨ q = 3 ∨ q = 4 by omega) with rfl | rfl | rfl | rfl | rfl <;> simp only [hh, true_and] <;> simp
  refine ⟨?_, ?_, h.bel.setCell (by simp) _⟩
  · rw [heap_setCell_other wr _ _ _ (by show w.heap.size ≠ w.heap.size + 1; omega)]; exact h.res
  · rw [← e]; exact heap_setCell_same wr _ _ _ _ _ h.cnt
theorem LRel.cell {g : Gr} {l : List Int} {w wr : World} {i q : Nat} (h : LRel g l w i wr) (h5 : q < 5) : wr.cell? ⟨w.heap.size + 1, q, none⟩ = some (.int .i64 (cntL g l q i)) := by
  rw [cell_of_row wr _ q _ _ (0, 0) h.cnt]
  rcases (show q = 0 ∨ q = 1 ∨ q = 2 ∨ q = 3 ∨ q = 4 by omega) with rfl | rfl | rfl | rfl | rfl <;> rfl
theorem LRel.free {g : Gr} {l : List Int} {w wr : World} {i q : Nat} (h : LRel g l w i wr) : wr.frozen? ⟨w.heap.size + 1, q, none⟩ = false := frozen_of_row wr _ q _ _ h.cnt

set_option maxRecDepth 100000 in
set_option maxHeartbeats 4000000 in
theorem kinds_any (A : Option Addr) (n c : Nat) (A2 : Option Addr) (n2 c2 : Nat) (g : Gr) (l : List Int) (w : World) (h : GAsk w A n c g) (h2 : LAsk w A2 n2 c2 l) :
    Calls Try.prog 16 #[.slice A n c, .slice A2 n2 c2] w fun e w' => e = .returned (kVal g l) ∧ Below w.heap.size w w' := by
  have HN : Hid (n ≤ maxLen) := Lib.hid (ml300 h.few)
  have HN2 : Hid (n2 ≤ maxLen) := Lib.hid (ml300 h2.few)
  have hn := h.few
  have hn2 := h2.few
  have HA := Lib.hid (lrel_made g l w)
  have HR := Lib.hid (h.reads.next HA.out.bel)
  have HI := Lib.hid (h2.reads.next HA.out.bel)
  have HR0 := Lib.hid h.reads
  have HI0 := Lib.hid h2.reads
  have HL := Lib.hid h.reads.len
  have HL2 := Lib.hid h2.reads.1
  clear h h2
  cases hg : rightG g with
  | false =>
    rw [kVal_zero (.inl hg)]
    have HG := Lib.hid hg
    clear hg
    go_enter Try.func16, Try.ntmps16
    go_wp2_with fail
    refine (graphRight_b HR.out HN.out HG.out).mono ?_
    rintro e w1 ⟨rfl, hb⟩
    have HA1 := Lib.hid (HA.out.next hb)
    have hc0 : ∀ j, w1.cell? ⟨w.heap.size, j, none⟩ = _ := fun j => cell_of_row w1 _ j _ _ (0, 0) HA1.out.res
    have hc1 : ∀ j, w1.cell? ⟨w.heap.size + 1, j, none⟩ = _ := fun j => cell_of_row w1 _ j _ _ (0, 0) HA1.out.cnt
    rw [lArr_zero] at hc1
    have hf0 : ∀ j, w1.frozen? ⟨w.heap.size, j, none⟩ = false := fun j => frozen_of_row w1 _ j _ _ HA1.out.res
    have HB := Lib.hid HA1.out.bel
    clear hb
    go_wp2
    refine bodyPost_ret (v := .agg #[.int .i64 0, .int .i64 0, .int .i64 0, .int .i64 0, .int .i64 0]) (by simp [results, Try.results16, go_sem, hc0]) rfl ⟨rfl, ?_⟩
    exact ((((HB.out.setCell (Nat.le_refl _) _).setCell (Nat.le_refl _) _).setCell (Nat.le_refl _) _).setCell (Nat.le_refl _) _).setCell (Nat.le_refl _) _
  | true =>
    have HGR := Lib.hid (rightG_is hg)
    have HG := Lib.hid hg
    clear hg
    have hn256 : n ≤ 256 := by have := HGR.out.few; have := HL.out; omega
    cases hs : rightB l with
    | false =>
      rw [kVal_zero (.inr hs)]
      have HS := Lib.hid hs
      clear hs
      go_enter Try.func16, Try.ntmps16
      go_wp2_with fail
      refine (graphRight_b HR.out HN.out HG.out).mono ?_
      rintro e w1 ⟨rfl, hb⟩
      have HA1 := Lib.hid (HA.out.next hb)
      have HI1 := Lib.hid (HI.out.next hb)
      clear hb
      go_wp2_with fail
      refine (s_isSet HI1.out HN2.out HS.out).mono ?_
      rintro e w2 ⟨rfl, hb⟩
      have HA2 := Lib.hid (HA1.out.next hb)
      have hc0 : ∀ j, w2.cell? ⟨w.heap.size, j, none⟩ = _ := fun j => cell_of_row w2 _ j _ _ (0, 0) HA2.out.res
      have hc1 : ∀ j, w2.cell? ⟨w.heap.size + 1, j, none⟩ = _ := fun j => cell_of_row w2 _ j _ _ (0, 0) HA2.out.cnt
      rw [lArr_zero] at hc1
      have hf0 : ∀ j, w2.frozen? ⟨w.heap.size, j, none⟩ = false := fun j => frozen_of_row w2 _ j _ _ HA2.out.res
      have HB := Lib.hid HA2.out.bel
      clear hb
      go_wp2
      refine bodyPost_ret (v := .agg #[.int .i64 0, .int .i64 0, .int .i64 0, .int .i64 0, .int .i64 0]) (by simp [results, Try.results16, go_sem, hc0]) rfl ⟨rfl, ?_⟩
      exact ((((HB.out.setCell (Nat.le_refl _) _).setCell (Nat.le_refl _) _).setCell (Nat.le_refl _) _).setCell (Nat.le_refl _) _).setCell (Nat.le_refl _) _
    | true =>
      have HS := Lib.hid hs
      clear hs
      go_enter Try.func16, Try.ntmps16
      go_wp2_with fail
      refine (graphRight_b HR.out HN.out HG.out).mono ?_
      rintro e w1 ⟨rfl, hb⟩
      have HA1 := Lib.hid (HA.out.next hb)
      have HR1 := Lib.hid (HR.out.next hb)
      have HI1 := Lib.hid (HI.out.next hb)
      clear hb
      go_wp2_with fail
      refine (s_isSet HI1.out HN2.out HS.out).mono ?_
      rintro e w2 ⟨rfl, hb⟩
      have HA2 := Lib.hid (HA1.out.next hb)
      have HRB : Hid (∀ wr, Below w.heap.size w wr → RG wr w.heap.size A n g ∧ RI wr w.heap.size A2 n2 l) := Lib.hid (fun wr hb' => ⟨HR0.out.below hb', HI0.out.below hb'⟩)
      clear hb
      go_wp2
      go_loopw [19] (fun i wr => ∃ k : Nat, k ≤ n2 ∧ i = .int .i64 k ∧ LRel g l w k wr) (fun i _ => n2 - (intOf i).toNat)
      case atStart => exact ⟨0, Nat.zero_le _, rfl, HA2.out⟩
      case round =>
        obtain ⟨k, hk, rfl, hrel⟩ := hrel
        have HK := Lib.hid hrel
        clear hrel
        by_cases hlt : k < n2
        · obtain ⟨hRk, hIk⟩ := HRB.out wr HK.out.bel
          have HRk := Lib.hid hRk
          have HKL : Hid (k < l.length) := Lib.hid (by rw [HL2.out]; exact hlt)
          obtain ⟨b, off, rfl, _, hcl⟩ := hIk.one hlt
          have hxr := right_mem HS.out (l.getD k 0) (by have := HKL.out; simp [List.getD, this])
          obtain ⟨x, hx⟩ : ∃ x : Nat, l.getD k 0 = (x : Int) := ⟨(l.getD k 0).toNat, by omega⟩
          have HX := Lib.hid hx
          rw [hx] at hcl hxr
          clear hx hRk hIk
          have hx255 : x ≤ 255 := by omega
          clear hxr
          by_cases hxn : x < n
          · obtain ⟨b2, off2, rfl, _, hc0, _, _, _⟩ := HRk.out.one hxn
            have hkn := HGR.out.kinds (k := x) (by rw [HL.out]; exact hxn)
            obtain ⟨kd, hkd⟩ : ∃ kd, gk g x = kd := ⟨_, rfl⟩
            rw [hkd] at hc0 hkn
            have HQ : Hid (l.getD k 0 < (g.length : Int) ∧ gk g (l.getD k 0).toNat = kd) := Lib.hid (by rw [HX.out, Int.toNat_natCast, HL.out]; exact ⟨by omega, hkd⟩)
            clear hkd
            rcases (show kd = 0 ∨ kd = 1 ∨ kd = 2 ∨ kd = 3 ∨ kd = 4 by omega) with h | h | h | h | h
            · subst h
              have hcq := HK.out.cell (q := 0) (by omega)
              have hfq := HK.out.free (q := 0)
              have H4 := Lib.hid (HK.out.yes HKL.out HQ.out.1 (q := 0) HQ.out.2 (by omega))
              have hle := cntL_le g l (((0 : Nat) : Int)) k
              obtain ⟨y, hy⟩ : ∃ y, cntL g l (((0 : Nat) : Int)) k = y := ⟨_, rfl⟩
              rw [hy] at hcq hle H4
              clear hy
              have hy300 : y ≤ 300 := by omega
              go_wp2
              go_roundw
              case rel => exact ⟨k + 1, by omega, by go_num, H4.out⟩
              case measure => simp [intOf]; omega
            · subst h
              have hcq := HK.out.cell (q := 1) (by omega)
              have hfq := HK.out.free (q := 1)
              have H4 := Lib.hid (HK.out.yes HKL.out HQ.out.1 (q := 1) HQ.out.2 (by omega))
              have hle := cntL_le g l (((1 : Nat) : Int)) k
              obtain ⟨y, hy⟩ : ∃ y, cntL g l (((1 : Nat) : Int)) k = y := ⟨_, rfl⟩
              rw [hy] at hcq hle H4
              clear hy
              have hy300 : y ≤ 300 := by omega
              go_wp2
              go_roundw
              case rel => exact ⟨k + 1, by omega, by go_num, H4.out⟩
              case measure => simp [intOf]; omega
            · subst h
              have hcq := HK.out.cell (q := 2) (by omega)
              have hfq := HK.out.free (q := 2)
              have H4 := Lib.hid (HK.out.yes HKL.out HQ.out.1 (q := 2) HQ.out.2 (by omega))
              have hle := cntL_le g l (((2 : Nat) : Int)) k
              obtain ⟨y, hy⟩ : ∃ y, cntL g l (((2 : Nat) : Int)) k = y := ⟨_, rfl⟩
              rw [hy] at hcq hle H4
              clear hy
              have hy300 : y ≤ 300 := by omega
              go_wp2
              go_roundw
              case rel => exact ⟨k + 1, by omega, by go_num, H4.out⟩
              case measure => simp [intOf]; omega
            · subst h
              have hcq := HK.out.cell (q := 3) (by omega)
              have hfq := HK.out.free (q := 3)
              have H4 := Lib.hid (HK.out.yes HKL.out HQ.out.1 (q := 3) HQ.out.2 (by omega))
              have hle := cntL_le g l (((3 : Nat) : Int)) k
              obtain ⟨y, hy⟩ : ∃ y, cntL g l (((3 : Nat) : Int)) k = y := ⟨_, rfl⟩
              rw [hy] at hcq hle H4
              clear hy
              have hy300 : y ≤ 300 := by omega
              go_wp2
              go_roundw
              case rel => exact ⟨k + 1, by omega, by go_num, H4.out⟩
              case measure => simp [intOf]; omega
            · subst h
              have hcq := HK.out.cell (q := 4) (by omega)
              have hfq := HK.out.free (q := 4)
              have H4 := Lib.hid (HK.out.yes HKL.out HQ.out.1 (q := 4) HQ.out.2 (by omega))
              have hle := cntL_le g l (((4 : Nat) : Int)) k
              obtain ⟨y, hy⟩ : ∃ y, cntL g l (((4 : Nat) : Int)) k = y := ⟨_, rfl⟩
              rw [hy] at hcq hle H4
              clear hy
              have hy300 : y ≤ 300 := by omega
              go_wp2
              go_roundw
              case rel => exact ⟨k + 1, by omega, by go_num, H4.out⟩
              case measure => simp [intOf]; omega
          · have H4 := Lib.hid (HK.out.no HKL.out (by rw [HX.out, HL.out]; omega))
            have hxd : decide (x < n) = false := by simp; omega
            clear hxn
            go_wp2
            go_roundw
            case rel => exact ⟨k + 1, by omega, by go_num, H4.out⟩
            case measure => simp [intOf]; omega
        · have hkn : k = n2 := by omega
          subst hkn
          have hv : Hid (kVal g l = .agg (lArr g l k)) := Lib.hid (by
            unfold kVal lArr kc
            rw [HG.out, ← HL2.out]
            simp only [if_true]
            rw [cntL_all HS.out HGR.out.few, cntL_all HS.out HGR.out.few, cntL_all HS.out HGR.out.few, cntL_all HS.out HGR.out.few, cntL_all HS.out HGR.out.few])
          have hc0 : ∀ j, wr.cell? ⟨w.heap.size, j, none⟩ = _ := fun j => cell_of_row wr _ j _ _ (0, 0) HK.out.res
          have hf0 : ∀ j, wr.frozen? ⟨w.heap.size, j, none⟩ = false := fun j => frozen_of_row wr _ j _ _ HK.out.res
          have g0 := HK.out.cell (q := 0) (by omega)
          have g1 := HK.out.cell (q := 1) (by omega)
          have g2 := HK.out.cell (q := 2) (by omega)
          have g3 := HK.out.cell (q := 3) (by omega)
          have g4 := HK.out.cell (q := 4) (by omega)
          have HBk := Lib.hid HK.out.bel
          go_wp2
          refine bodyPost_ret (v := .agg (lArr g l k)) (by simp [results, Try.results16, go_sem, hc0]; rfl) rfl ⟨by rw [hv.out], ?_⟩
          exact ((((HBk.out.setCell (Nat.le_refl _) _).setCell (Nat.le_refl _) _).setCell (Nat.le_refl _) _).setCell (Nat.le_refl _) _).setCell (Nat.le_refl _) _

end Go.Proofs.Ytokjinihdanhbaa
