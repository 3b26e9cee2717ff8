/- The reference's Kinds of a graph's set (bailiwickref05): what it answers of any list of things and numbers. -/
import Derived.Test.YtokjinihdanhbaaGraphLists
import Derived.Test.YtokjinihdanhbaaSetAsks
namespace Go.Proofs.Ytokjinihdanhbaa
open Go.RowKit

/-- five counts as an array's cells -/
def kArr (g : Gr) (l : List Int) (k : Nat) : Array Value := #[.int .i64 (cntK g l 0 k), .int .i64 (cntK g l 1 k), .int .i64 (cntK g l 2 k), .int .i64 (cntK g l 3 k), .int .i64 (cntK g l 4 k)]
theorem refHas_b {A : Option Addr} {n c : Nat} {xs : List Int} {v : Int} {w : World} {b : Bool} (hr : RI w w.heap.size A n xs) (hn : n ≤ maxLen) (h : hasB xs v = b) :
    Calls Try.prog 33 #[.slice A n c, .int .i64 v] w fun e w' => e = .returned (.bool b) ∧ ∃ k, w' = w.drewN k := by
  subst h; exact refHas_any A n c xs v w hr hn

/-- the two arrays behind the first k things -/
def KRel (g : Gr) (l : List Int) (w w1 : World) (k : Nat) (wr : World) : Prop :=
  wr.heap[w.heap.size]? = some (.cells #[.int .i64 0, .int .i64 0, .int .i64 0, .int .i64 0, .int .i64 0] 29 (0, 0)) ∧
  wr.heap[w.heap.size + 1]? = some (.cells (kArr g l k) 29 (0, 0)) ∧ (∀ b, b < w1.heap.size → b ≠ w.heap.size + 1 → wr.heap[b]? = w1.heap[b]?) ∧ Below w.heap.size w wr

theorem kArr_zero (g : Gr) (l : List Int) : kArr g l 0 = #[.int .i64 0, .int .i64 0, .int .i64 0, .int .i64 0, .int .i64 0] := by simp [kArr, cntK]
theorem krel_drew {g : Gr} {l : List Int} {w w1 wr : World} {k : Nat} (h : KRel g l w w1 k wr) (q : Nat) : KRel g l w w1 k (wr.drewN q) := ⟨h.1, h.2.1, h.2.2.1, h.2.2.2.trans ((bel_drew wr q).mono h.2.2.2.size)⟩
theorem krel_no {g : Gr} {l : List Int} {w w1 wr : World} {k : Nat} (h : KRel g l w w1 k wr) (hh : hasB l k = false) : KRel g l w w1 (k + 1) wr := by
  have e : kArr g l (k + 1) = kArr g l k := by simp [kArr, cntK_succ, hh]
  exact ⟨h.1, by rw [e]; exact h.2.1, h.2.2⟩
theorem krel_yes {g : Gr} {l : List Int} {w w1 wr : World} {k q : Nat} (h : KRel g l w w1 k wr) (hh : hasB l k = true) (hq : gk g k = q) (h5 : q < 5) : KRel g l w w1 (k + 1) (wr.setCell ⟨w.heap.size + 1, q, none⟩ (.int .i64 ((cntK g l q k : Int) + 1))) := by
  have e : (kArr g l k).setIfInBounds q (.int .i64 ((cntK g l q k : Int) + 1)) = kArr g l (k + 1) := by
    rcases (show q = 0 ∨ q = 1 ∨ q = 2 ∨ q = 3 ∨ q = 4 by omega) with rfl | rfl | rfl | rfl | rfl <;> simp [kArr, cntK_succ, hh, hq]
  have hoth : ∀ b, b ≠ w.heap.size + 1 → (wr.setCell ⟨w.heap.size + 1, q, none⟩ (.int .i64 ((cntK g l q k : Int) + 1))).heap[b]? = wr.heap[b]? := fun b hb => heap_setCell_other wr _ _ _ hb
  refine ⟨?_, ?_, fun b hb hne => ?_, ?_⟩
  · rw [hoth _ (by omega)]; exact h.1
  · rw [← e]; exact heap_setCell_same wr _ _ _ _ _ h.2.1
  · rw [hoth _ hne]; exact h.2.2.1 b hb hne
  · exact h.2.2.2.setCell (by simp) _
theorem krel_cell {g : Gr} {l : List Int} {w w1 wr : World} {k q : Nat} (h : KRel g l w w1 k wr) (h5 : q < 5) : wr.cell? ⟨w.heap.size + 1, q, none⟩ = some (.int .i64 (cntK g l q k)) := by
  rw [cell_of_row wr _ q _ _ (0, 0) h.2.1]
  rcases (show q = 0 ∨ q = 1 ∨ q = 2 ∨ q = 3 ∨ q = 4 by omega) with rfl | rfl | rfl | rfl | rfl <;> rfl
theorem krel_free {g : Gr} {l : List Int} {w w1 wr : World} {k q : Nat} (h : KRel g l w w1 k wr) : wr.frozen? ⟨w.heap.size + 1, q, none⟩ = false := frozen_of_row wr _ q _ _ h.2.1

set_option maxRecDepth 100000 in
set_option maxHeartbeats 4000000 in
theorem refKindsG_any (A : Option Addr) (n c : Nat) (A2 : Option Addr) (n2 c2 : Nat) (g : Gr) (l : List Int) (w : World) (hr : RG w w.heap.size A n g) (hn : n ≤ maxLen) (hr2 : RI w w.heap.size A2 n2 l) (hn2 : n2 ≤ maxLen) :
    Calls Try.prog 17 #[.slice A n c, .slice A2 n2 c2] w fun e w' => e = .returned (kVal g l) ∧ Below w.heap.size w w' := by
  have HN := Lib.hid hn
  have HN2 := Lib.hid hn2
  unfold maxLen at hn hn2
  obtain ⟨W, hW⟩ : ∃ W, W = (w.alloc (.cells #[.int .i64 0, .int .i64 0, .int .i64 0, .int .i64 0, .int .i64 0] 29)).alloc (.cells #[.int .i64 0, .int .i64 0, .int .i64 0, .int .i64 0, .int .i64 0] 29) := ⟨_, rfl⟩
  have hBW : Below w.heap.size w W := by rw [hW]; exact ((Below.refl _ _).alloc (Nat.le_refl _) _).alloc (by simp) _
  have HR0 := Lib.hid hr
  have HI0 := Lib.hid hr2
  have HR := Lib.hid (hr.next hBW)
  have HI := Lib.hid (hr2.next hBW)
  have HBW := Lib.hid hBW
  have HW := Lib.hid hW
  clear hr hr2 hBW
  cases hg : rightG g with
  | false =>
    have HG := Lib.hid hg
    have e0 : kVal g l = .agg #[.int .i64 0, .int .i64 0, .int .i64 0, .int .i64 0, .int .i64 0] := by unfold kVal kc; rw [hg]; rfl
    rw [e0]
    clear hg e0
    go_enter Try.func17, Try.ntmps17
    go_wp2_with fail
    rw [← HW.out]
    refine (refRightG_b HR.out HN.out HG.out).mono ?_
    rintro e w1 ⟨rfl, hb⟩
    have HB := Lib.hid (HBW.out.trans (hb.mono HBW.out.size))
    have hz0 : w1.heap[w.heap.size]? = some (.cells #[.int .i64 0, .int .i64 0, .int .i64 0, .int .i64 0, .int .i64 0] 29 (0, 0)) := by
      rw [hb.block _ (by rw [hW]; simp; omega), hW, Below.heap_alloc _ _ _ (by simp)]; exact heap_alloc_new w _
    have hz1 : w1.heap[w.heap.size + 1]? = some (.cells #[.int .i64 0, .int .i64 0, .int .i64 0, .int .i64 0, .int .i64 0] 29 (0, 0)) := by
      rw [hb.block _ (by rw [hW]; simp), hW]; have := heap_alloc_new (w.alloc (.cells #[.int .i64 0, .int .i64 0, .int .i64 0, .int .i64 0, .int .i64 0] 29)) (.cells #[.int .i64 0, .int .i64 0, .int .i64 0, .int .i64 0, .int .i64 0] 29); simpa using this
    have hc0 : ∀ j, w1.cell? ⟨w.heap.size, j, none⟩ = _ := fun j => cell_of_row w1 _ j _ _ (0, 0) hz0
    have hc1 : ∀ j, w1.cell? ⟨w.heap.size + 1, j, none⟩ = _ := fun j => cell_of_row w1 _ j _ _ (0, 0) hz1
    have hf0 : ∀ j, w1.frozen? ⟨w.heap.size, j, none⟩ = false := fun j => frozen_of_row w1 _ j _ _ hz0
    clear hb
    go_wp2
    refine bodyPost_ret (v := .agg #[.int .i64 0, .int .i64 0, .int .i64 0, .int .i64 0, .int .i64 0]) (by simp [results, Try.results17, go_sem, hc0]) rfl ⟨rfl, ?_⟩
    exact ((((HB.out.setCell (Nat.le_refl _) _).setCell (Nat.le_refl _) _).setCell (Nat.le_refl _) _).setCell (Nat.le_refl _) _).setCell (Nat.le_refl _) _
  | true =>
    have HGR := Lib.hid (rightG_is hg)
    have HG := Lib.hid hg
    clear hg
    have hn256 : n ≤ 256 := by have := HGR.out.few; have := HR.out.len; omega
    go_enter Try.func17, Try.ntmps17
    go_wp2_with fail
    rw [← HW.out]
    refine (refRightG_b HR.out HN.out HG.out).mono ?_
    rintro e w1 ⟨rfl, hb⟩
    have HB1 := Lib.hid (HBW.out.trans (hb.mono HBW.out.size))
    have HR1 := Lib.hid (HR.out.next hb)
    have HI1 := Lib.hid (HI.out.next hb)
    have hsz : w.heap.size + 2 ≤ W.heap.size := by rw [hW]; simp
    have HSZ := Lib.hid (Nat.le_trans hsz hb.size)
    have HZ0 : Hid (w1.heap[w.heap.size]? = some (.cells #[.int .i64 0, .int .i64 0, .int .i64 0, .int .i64 0, .int .i64 0] 29 (0, 0))) := Lib.hid (by
      rw [hb.block _ (by rw [hW]; simp; omega), hW, Below.heap_alloc _ _ _ (by simp)]; exact heap_alloc_new w _)
    have HZ1 : Hid (w1.heap[w.heap.size + 1]? = some (.cells (kArr g l 0) 29 (0, 0))) := Lib.hid (by
      rw [kArr_zero]
      rw [hb.block _ (by rw [hW]; simp), hW]; have := heap_alloc_new (w.alloc (.cells #[.int .i64 0, .int .i64 0, .int .i64 0, .int .i64 0, .int .i64 0] 29)) (.cells #[.int .i64 0, .int .i64 0, .int .i64 0, .int .i64 0, .int .i64 0] 29); simpa using this)
    clear hb hsz
    go_wp2
    go_loopw [6] (fun i wr => ∃ k : Nat, k ≤ n ∧ i = .int .i64 k ∧ KRel g l w w1 k wr) (fun i _ => n - (intOf i).toNat)
    case atStart => exact ⟨0, Nat.zero_le _, rfl, HZ0.out, HZ1.out, fun _ _ _ => rfl, HB1.out⟩
    case round =>
      obtain ⟨k, hk, rfl, hrel⟩ := hrel
      have HK := Lib.hid hrel
      clear hrel
      by_cases hlt : k < n
      · have hRk := Lib.hid (HR0.out.below HK.out.2.2.2)
        have hIk := Lib.hid ((HI0.out.below HK.out.2.2.2).more HK.out.2.2.2.size)
        cases hh : hasB l k with
        | false =>
          have HH := Lib.hid hh
          clear hh
          go_wp2_with fail
          refine (refHas_b hIk.out HN2.out HH.out).mono ?_
          rintro e w3 ⟨rfl, q, hw3⟩
          have H3 : Hid (KRel g l w w1 k w3) := Lib.hid (by rw [hw3]; exact krel_drew HK.out q)
          have H4 := Lib.hid (krel_no H3.out HH.out)
          clear hw3
          go_wp2
          go_roundw
          case rel => exact ⟨k + 1, by omega, by go_num, H4.out⟩
          case measure => simp [intOf]; omega
        | true =>
          have HH := Lib.hid hh
          clear hh
          go_wp2_with fail
          refine (refHas_b hIk.out HN2.out HH.out).mono ?_
          rintro e w3 ⟨rfl, q, hw3⟩
          have H3 : Hid (KRel g l w w1 k w3) := Lib.hid (by rw [hw3]; exact krel_drew HK.out q)
          have HR3 := Lib.hid (HR0.out.below H3.out.2.2.2)
          obtain ⟨b, off, rfl, _, hc0, _, _, _⟩ := HR3.out.one hlt
          have hkn := HGR.out.kinds (k := k) (by rw [HR0.out.len]; exact hlt)
          obtain ⟨kd, hkd⟩ : ∃ kd, gk g k = kd := ⟨_, rfl⟩
          rw [hkd] at hc0 hkn
          have HQ := Lib.hid hkd
          clear hw3 hkd
          rcases (show kd = 0 ∨ kd = 1 ∨ kd = 2 ∨ kd = 3 ∨ kd = 4 by omega) with h | h | h | h | h
          · subst h
            have hcq := krel_cell H3.out (q := 0) (by omega)
            have hfq := krel_free H3.out (q := 0)
            have H4 := Lib.hid (krel_yes H3.out HH.out (q := 0) HQ.out (by omega))
            have hle := cntK_le g l (((0 : Nat) : Int)) k
            obtain ⟨y, hy⟩ : ∃ y, cntK g l (((0 : Nat) : Int)) k = y := ⟨_, rfl⟩
            rw [hy] at hcq hle H4
            clear hy
            have hy256 : y ≤ 256 := by omega
            go_wp2
            go_roundw
            case rel => exact ⟨k + 1, by omega, by go_num, H4.out⟩
            case measure => simp [intOf]; omega
          · subst h
            have hcq := krel_cell H3.out (q := 1) (by omega)
            have hfq := krel_free H3.out (q := 1)
            have H4 := Lib.hid (krel_yes H3.out HH.out (q := 1) HQ.out (by omega))
            have hle := cntK_le g l (((1 : Nat) : Int)) k
            obtain ⟨y, hy⟩ : ∃ y, cntK g l (((1 : Nat) : Int)) k = y := ⟨_, rfl⟩
            rw [hy] at hcq hle H4
            clear hy
            have hy256 : y ≤ 256 := by omega
            go_wp2
            go_roundw
            case rel => exact ⟨k + 1, by omega, by go_num, H4.out⟩
            case measure => simp [intOf]; omega
          · subst h
            have hcq := krel_cell H3.out (q := 2) (by omega)
            have hfq := krel_free H3.out (q := 2)
            have H4 := Lib.hid (krel_yes H3.out HH.out (q := 2) HQ.out (by omega))
            have hle := cntK_le g l (((2 : Nat) : Int)) k
            obtain ⟨y, hy⟩ : ∃ y, cntK g l (((2 : Nat) : Int)) k = y := ⟨_, rfl⟩
            rw [hy] at hcq hle H4
            clear hy
            have hy256 : y ≤ 256 := by omega
            go_wp2
            go_roundw
            case rel => exact ⟨k + 1, by omega, by go_num, H4.out⟩
            case measure => simp [intOf]; omega
          · subst h
            have hcq := krel_cell H3.out (q := 3) (by omega)
            have hfq := krel_free H3.out (q := 3)
            have H4 := Lib.hid (krel_yes H3.out HH.out (q := 3) HQ.out (by omega))
            have hle := cntK_le g l (((3 : Nat) : Int)) k
            obtain ⟨y, hy⟩ : ∃ y, cntK g l (((3 : Nat) : Int)) k = y := ⟨_, rfl⟩
            rw [hy] at hcq hle H4
            clear hy
            have hy256 : y ≤ 256 := by omega
            go_wp2
            go_roundw
            case rel => exact ⟨k + 1, by omega, by go_num, H4.out⟩
            case measure => simp [intOf]; omega
          · subst h
            have hcq := krel_cell H3.out (q := 4) (by omega)
            have hfq := krel_free H3.out (q := 4)
            have H4 := Lib.hid (krel_yes H3.out HH.out (q := 4) HQ.out (by omega))
            have hle := cntK_le g l (((4 : Nat) : Int)) k
            obtain ⟨y, hy⟩ : ∃ y, cntK g l (((4 : Nat) : Int)) k = y := ⟨_, rfl⟩
            rw [hy] at hcq hle H4
            clear hy
            have hy256 : y ≤ 256 := by omega
            go_wp2
            go_roundw
            case rel => exact ⟨k + 1, by omega, by go_num, H4.out⟩
            case measure => simp [intOf]; omega
      · have hkn : k = n := by omega
        subst hkn
        have hv : Hid (kVal g l = .agg (kArr g l k)) := Lib.hid (by unfold kVal kArr kc; rw [HG.out, HR0.out.len]; rfl)
        have hc0 : ∀ j, wr.cell? ⟨w.heap.size, j, none⟩ = _ := fun j => cell_of_row wr _ j _ _ (0, 0) HK.out.1
        have hf0 : ∀ j, wr.frozen? ⟨w.heap.size, j, none⟩ = false := fun j => frozen_of_row wr _ j _ _ HK.out.1
        have g0 := krel_cell HK.out (q := 0) (by omega)
        have g1 := krel_cell HK.out (q := 1) (by omega)
        have g2 := krel_cell HK.out (q := 2) (by omega)
        have g3 := krel_cell HK.out (q := 3) (by omega)
        have g4 := krel_cell HK.out (q := 4) (by omega)
        have HBk := Lib.hid HK.out.2.2.2
        go_wp2
        refine bodyPost_ret (v := .agg (kArr g l k)) (by simp [results, Try.results17, go_sem, hc0]; rfl) rfl ⟨by rw [hv.out], ?_⟩
        exact ((((HBk.out.setCell (Nat.le_refl _) _).setCell (Nat.le_refl _) _).setCell (Nat.le_refl _) _).setCell (Nat.le_refl _) _).setCell (Nat.le_refl _) _

end Go.Proofs.Ytokjinihdanhbaa
