/- The statement QueueLists, as a walk over the contracts. Written by gen/gen_queuelaws.py. -/
import Derived.Test.YtimgdlddfnglaaaMg08
import Derived.Test.YtimgdlddfnglaaaZQueueRefE
namespace Go.Proofs.Ytimgdlddfnglaaa
open Go.RowKit

set_option maxRecDepth 100000 in
set_option maxHeartbeats 8000000 in
theorem queueLists_l (H : QueueOk) (A : Option Addr) (n c : Nat) (l : Qu) (w : World) (hl : QAsk w A n c l) (h0 : shortQ l = false) :
    Calls Try.prog 3 #[.slice A n c] w fun e w' => e = .returned (.bool true) ∧ Below w.heap.size w w' := by
  have HB := Lib.hid (Below.refl w.heap.size w)
  have QA := Lib.hid hl
  have Q0 := Lib.hid hl
  have E0 := Lib.hid h0
  clear hl h0
  go_enter Try.func3, Try.ntmps3
  go_wp2_with fail
  refine (awake12_any H _).mono ?_
  rintro e w1 ⟨rfl, hb⟩
  have HBq := Lib.hid (HB.out.trans (hb.mono HB.out.size))
  clear HB
  have HB := HBq
  clear HBq
  have QAq := Lib.hid (QA.out.next hb)
  clear QA
  have QA := QAq
  clear QAq
  clear hb
  go_wp2_with fail
  refine (refShortQ_b QA.out E0.out).mono ?_
  rintro e w2 ⟨rfl, hb⟩
  have HBq := Lib.hid (HB.out.trans (hb.mono HB.out.size))
  clear HB
  have HB := HBq
  clear HBq
  have QAq := Lib.hid (QA.out.next hb)
  clear QA
  have QA := QAq
  clear QAq
  clear hb
  go_wp2
  go_ret
  exact ⟨rfl, HB.out⟩

set_option maxRecDepth 100000 in
set_option maxHeartbeats 8000000 in
theorem queueLists_no (H : QueueOk) (A : Option Addr) (n c : Nat) (l : Qu) (w : World) (hl : QAsk w A n c l) (h0 : shortQ l = true) (hr : rightQ l = false) :
    Calls Try.prog 3 #[.slice A n c] w fun e w' => e = .returned (.bool true) ∧ Below w.heap.size w w' := by
  have HB := Lib.hid (Below.refl w.heap.size w)
  have QA := Lib.hid hl
  have Q0 := Lib.hid hl
  have E0 := Lib.hid h0
  have HSQ := Lib.hid (of_decide_eq_true h0 : ShortQ l)
  have F0 := Lib.hid (HSQ.out.few)
  have HL := Lib.hid hl.reads.len
  have hn14 : n ≤ 14 := by rw [← hl.reads.len]; exact HSQ.out.1
  obtain ⟨r1, e1⟩ : ∃ r, readyQ l = r := ⟨_, rfl⟩
  obtain ⟨r2, e2⟩ : ∃ r, lostQ l = r := ⟨_, rfl⟩
  obtain ⟨kc, e3⟩ : ∃ r, countsQ l = r := ⟨_, rfl⟩
  have L1 : Hid (r1.length ≤ 100) := Lib.hid (by rw [← e1]; exact Nat.le_trans readyQ_len F0.out.1)
  have L2 : Hid (r2.length ≤ 100) := Lib.hid (by rw [← e2]; exact Nat.le_trans lostQ_len F0.out.1)
  have E1 := Lib.hid e1
  have E2 := Lib.hid e2
  have E3 := Lib.hid e3
  clear hl h0 e1 e2 e3
  have RR := Lib.hid hr
  clear hr
  go_enter Try.func3, Try.ntmps3
  go_wp2_with fail
  refine (awake12_any H _).mono ?_
  rintro e w1 ⟨rfl, hb⟩
  have HBq := Lib.hid (HB.out.trans (hb.mono HB.out.size))
  clear HB
  have HB := HBq
  clear HBq
  have QAq := Lib.hid (QA.out.next hb)
  clear QA
  have QA := QAq
  clear QAq
  clear hb
  go_wp2_with fail
  refine (refShortQ_b QA.out E0.out).mono ?_
  rintro e w2 ⟨rfl, hb⟩
  have HBq := Lib.hid (HB.out.trans (hb.mono HB.out.size))
  clear HB
  have HB := HBq
  clear HBq
  have QAq := Lib.hid (QA.out.next hb)
  clear QA
  have QA := QAq
  clear QAq
  clear hb
  have hb := Below.alloc (Below.refl w2.heap.size w2) (Nat.le_refl _) (.cells #[.int .i64 0, .int .i64 0, .int .i64 0, .int .i64 0, .int .i64 0, .int .i64 0, .int .i64 0] 25)
  have BCq := Lib.hid (boxC_new w2 fun _ => 0)
  have HBq := Lib.hid (HB.out.trans (hb.mono HB.out.size))
  clear HB
  have HB := HBq
  clear HBq
  have QAq := Lib.hid (QA.out.next hb)
  clear QA
  have QA := QAq
  clear QAq
  clear hb
  have BC := BCq
  clear BCq
  obtain ⟨g, hg⟩ : ∃ g, w2.heap.size = g := ⟨_, rfl⟩
  rw [hg] at BC
  have BK : Hid (BoxC _ g kc) := Lib.hid (BC.out.ext fun s => by rw [← E3.out]; exact (counts_no (of_decide_eq_false RR.out) s).symm)
  clear BC
  have BC := BK
  clear BK
  go_wp2
  try rw [hg]
  have HGQ := Lib.hid hg
  clear hg
  go_loopw [4] (fun iv wr => iv = .int .i64 0 ∧ QAsk wr A n c l ∧ BoxC wr g kc ∧ Below w.heap.size w wr) (fun _ _ => 0)
  case atStart => exact ⟨rfl, QA.out, BC.out, HB.out⟩
  case round =>
    clear QA BC HB
    obtain ⟨rfl, hq, hbc, hb⟩ := hrel
    have QA := Lib.hid hq
    have BC := Lib.hid hbc
    have HB := Lib.hid hb
    clear hq hbc hb
    by_cases h0n : 0 < n
    · have d0 : decide (0 < n) = true := decide_eq_true h0n
      have d0z : decide ((0 : Int) < (n : Int)) = true := by simp; omega
      go_wp2_with fail
      refine (refRightQ_b QA.out RR.out).mono ?_
      rintro e w3 ⟨rfl, hb⟩
      have HBq := Lib.hid (HB.out.trans (hb.mono HB.out.size))
      clear HB
      have HB := HBq
      clear HBq
      have QAq := Lib.hid (QA.out.next hb)
      clear QA
      have QA := QAq
      clear QAq
      have BCq := Lib.hid (BC.out.next hb)
      clear BC
      have BC := BCq
      clear BCq
      clear hb
      have EQ7 : ∀ W : World, _ := fun W => run_eq7 (kc 0) (kc 1) (kc 2) (kc 3) (kc 4) (kc 5) (kc 6) W
      have x0 := BC.out.c0
      have x1 := BC.out.c1
      have x2 := BC.out.c2
      have x3 := BC.out.c3
      have x4 := BC.out.c4
      have x5 := BC.out.c5
      have x6 := BC.out.c6
      go_wp2
      have HKEEP : Hid (∀ wx, Below w3.drew.heap.size w3.drew wx → wx.cell? ⟨g, 0, none⟩ = some (.int .i64 (kc 0)) ∧ wx.cell? ⟨g, 1, none⟩ = some (.int .i64 (kc 1)) ∧ wx.cell? ⟨g, 2, none⟩ = some (.int .i64 (kc 2)) ∧ wx.cell? ⟨g, 3, none⟩ = some (.int .i64 (kc 3)) ∧ wx.cell? ⟨g, 4, none⟩ = some (.int .i64 (kc 4)) ∧ wx.cell? ⟨g, 5, none⟩ = some (.int .i64 (kc 5)) ∧ wx.cell? ⟨g, 6, none⟩ = some (.int .i64 (kc 6))) := Lib.hid (fun wx hz' => by
        have hz := (bel_drew1 w3).trans (hz'.mono (bel_drew1 w3).size)
        exact ⟨keep_cell BC.out.lt x0 hz, keep_cell BC.out.lt x1 hz, keep_cell BC.out.lt x2 hz, keep_cell BC.out.lt x3 hz, keep_cell BC.out.lt x4 hz, keep_cell BC.out.lt x5 hz, keep_cell BC.out.lt x6 hz⟩)
      have hd := bel_drew1 w3
      have HBq := Lib.hid (HB.out.trans (hd.mono HB.out.size))
      clear HB
      have HB := HBq
      clear HBq
      have QAq := Lib.hid (QA.out.next hd)
      clear QA
      have QA := QAq
      clear QAq
      have BCq := Lib.hid (BC.out.next hd)
      clear BC
      have BC := BCq
      clear BCq
      clear hd
      have HY := Lib.hid (Below.refl w3.drew.heap.size w3.drew)
      go_region_held3 (fun w' => w'.cell? ⟨g, 0, none⟩ = some (.int .i64 (kc 0)) ∧ w'.cell? ⟨g, 1, none⟩ = some (.int .i64 (kc 1)) ∧ w'.cell? ⟨g, 2, none⟩ = some (.int .i64 (kc 2)) ∧ w'.cell? ⟨g, 3, none⟩ = some (.int .i64 (kc 3)) ∧ w'.cell? ⟨g, 4, none⟩ = some (.int .i64 (kc 4)) ∧ w'.cell? ⟨g, 5, none⟩ = some (.int .i64 (kc 5)) ∧ w'.cell? ⟨g, 6, none⟩ = some (.int .i64 (kc 6)))
        (first | exact HKEEP.out _ (Below.refl _ _) | exact HKEEP.out _ HY.out | exact HKEEP.out _ (HY.out.alloc HY.out.size _) | go_keep | fail)
        (first | (go_at_call 11; (with_reducible refine (h12_ready H QA.out F0.out E1.out (w := w3.drew)).mono ?_); rintro e w4 ⟨⟨A11, c11, rfl, hr11, hnil11, hc11⟩, hb⟩; have HY := Lib.hid (HY.out.trans (hb.mono HY.out.size)); have HB := Lib.hid (HB.out.trans (hb.mono HB.out.size)); have QA := Lib.hid (QA.out.next hb); have BC := Lib.hid (BC.out.next hb); have R1 := Lib.hid hr11; clear hb) | (go_at_call 12; (with_reducible refine (refReady_b QA.out E1.out (w := w4)).mono ?_); rintro e w5 ⟨⟨A12, c12, rfl, hr12, hnil12, hc12⟩, hb⟩; have HY := Lib.hid (HY.out.trans (hb.mono HY.out.size)); have HB := Lib.hid (HB.out.trans (hb.mono HB.out.size)); have QA := Lib.hid (QA.out.next hb); have BC := Lib.hid (BC.out.next hb); have R1 := Lib.hid (R1.out.next hb); have R2 := Lib.hid hr12; clear hb) | (go_at_call 10; (with_reducible refine (ri_same R1.out R2.out (by have := L1.out; unfold maxLen; omega) (by have := L1.out; unfold maxLen; omega) (same_self r1) (w := w5)).mono ?_); rintro e w6 ⟨rfl, hb⟩; have HY := Lib.hid (HY.out.trans (hb.mono HY.out.size)); have HB := Lib.hid (HB.out.trans (hb.mono HB.out.size)); have QA := Lib.hid (QA.out.next hb); have BC := Lib.hid (BC.out.next hb); have R1 := Lib.hid (R1.out.next hb); have R2 := Lib.hid (R2.out.next hb); clear hb) | (go_at_call 13; (with_reducible refine (h12_lost H QA.out F0.out E2.out (w := w6)).mono ?_); rintro e w7 ⟨⟨A13, c13, rfl, hr13, hnil13, hc13⟩, hb⟩; have HY := Lib.hid (HY.out.trans (hb.mono HY.out.size)); have HB := Lib.hid (HB.out.trans (hb.mono HB.out.size)); have QA := Lib.hid (QA.out.next hb); have BC := Lib.hid (BC.out.next hb); have R1 := Lib.hid (R1.out.next hb); have R2 := Lib.hid (R2.out.next hb); have R3 := Lib.hid hr13; clear hb) | (go_at_call 14; (with_reducible refine (refLost_b QA.out E2.out (w := w7)).mono ?_); rintro e w8 ⟨⟨A14, c14, rfl, hr14, hnil14, hc14⟩, hb⟩; have HY := Lib.hid (HY.out.trans (hb.mono HY.out.size)); have HB := Lib.hid (HB.out.trans (hb.mono HB.out.size)); have QA := Lib.hid (QA.out.next hb); have BC := Lib.hid (BC.out.next hb); have R1 := Lib.hid (R1.out.next hb); have R2 := Lib.hid (R2.out.next hb); have R3 := Lib.hid (R3.out.next hb); have R4 := Lib.hid hr14; clear hb) | (go_at_call 10; (with_reducible refine (ri_same R3.out R4.out (by have := L2.out; unfold maxLen; omega) (by have := L2.out; unfold maxLen; omega) (same_self r2) (w := w8)).mono ?_); rintro e w9 ⟨rfl, hb⟩; have HY := Lib.hid (HY.out.trans (hb.mono HY.out.size)); have HB := Lib.hid (HB.out.trans (hb.mono HB.out.size)); have QA := Lib.hid (QA.out.next hb); have BC := Lib.hid (BC.out.next hb); have R1 := Lib.hid (R1.out.next hb); have R2 := Lib.hid (R2.out.next hb); have R3 := Lib.hid (R3.out.next hb); have R4 := Lib.hid (R4.out.next hb); clear hb) | (go_at_call 15; (with_reducible refine (h12_counts H QA.out F0.out E3.out (w := w9)).mono ?_); rintro e w10 ⟨rfl, hb⟩; have HY := Lib.hid (HY.out.trans (hb.mono HY.out.size)); have HB := Lib.hid (HB.out.trans (hb.mono HB.out.size)); have QA := Lib.hid (QA.out.next hb); have BC := Lib.hid (BC.out.next hb); have R1 := Lib.hid (R1.out.next hb); have R2 := Lib.hid (R2.out.next hb); have R3 := Lib.hid (R3.out.next hb); have R4 := Lib.hid (R4.out.next hb); clear hb) | fail)
      clear HKEEP HY
      clear x0 x1 x2 x3 x4 x5 x6
      go_wp2
      go_ret
      exact ⟨rfl, HB.out⟩
    · have d0 : decide (0 < n) = false := decide_eq_false h0n
      have d0z : decide ((0 : Int) < (n : Int)) = false := by simp; omega
      have EQ7 : ∀ W : World, _ := fun W => run_eq7 (kc 0) (kc 1) (kc 2) (kc 3) (kc 4) (kc 5) (kc 6) W
      have x0 := BC.out.c0
      have x1 := BC.out.c1
      have x2 := BC.out.c2
      have x3 := BC.out.c3
      have x4 := BC.out.c4
      have x5 := BC.out.c5
      have x6 := BC.out.c6
      go_wp2
      have HKEEP : Hid (∀ wx, Below wr.drew.heap.size wr.drew wx → wx.cell? ⟨g, 0, none⟩ = some (.int .i64 (kc 0)) ∧ wx.cell? ⟨g, 1, none⟩ = some (.int .i64 (kc 1)) ∧ wx.cell? ⟨g, 2, none⟩ = some (.int .i64 (kc 2)) ∧ wx.cell? ⟨g, 3, none⟩ = some (.int .i64 (kc 3)) ∧ wx.cell? ⟨g, 4, none⟩ = some (.int .i64 (kc 4)) ∧ wx.cell? ⟨g, 5, none⟩ = some (.int .i64 (kc 5)) ∧ wx.cell? ⟨g, 6, none⟩ = some (.int .i64 (kc 6))) := Lib.hid (fun wx hz' => by
        have hz := (bel_drew1 wr).trans (hz'.mono (bel_drew1 wr).size)
        exact ⟨keep_cell BC.out.lt x0 hz, keep_cell BC.out.lt x1 hz, keep_cell BC.out.lt x2 hz, keep_cell BC.out.lt x3 hz, keep_cell BC.out.lt x4 hz, keep_cell BC.out.lt x5 hz, keep_cell BC.out.lt x6 hz⟩)
      have hd := bel_drew1 wr
      have HBq := Lib.hid (HB.out.trans (hd.mono HB.out.size))
      clear HB
      have HB := HBq
      clear HBq
      have QAq := Lib.hid (QA.out.next hd)
      clear QA
      have QA := QAq
      clear QAq
      have BCq := Lib.hid (BC.out.next hd)
      clear BC
      have BC := BCq
      clear BCq
      clear hd
      have HY := Lib.hid (Below.refl wr.drew.heap.size wr.drew)
      go_region_held3 (fun w' => w'.cell? ⟨g, 0, none⟩ = some (.int .i64 (kc 0)) ∧ w'.cell? ⟨g, 1, none⟩ = some (.int .i64 (kc 1)) ∧ w'.cell? ⟨g, 2, none⟩ = some (.int .i64 (kc 2)) ∧ w'.cell? ⟨g, 3, none⟩ = some (.int .i64 (kc 3)) ∧ w'.cell? ⟨g, 4, none⟩ = some (.int .i64 (kc 4)) ∧ w'.cell? ⟨g, 5, none⟩ = some (.int .i64 (kc 5)) ∧ w'.cell? ⟨g, 6, none⟩ = some (.int .i64 (kc 6)))
        (first | exact HKEEP.out _ (Below.refl _ _) | exact HKEEP.out _ HY.out | exact HKEEP.out _ (HY.out.alloc HY.out.size _) | go_keep | fail)
        (first | (go_at_call 11; (with_reducible refine (h12_ready H QA.out F0.out E1.out (w := wr.drew)).mono ?_); rintro e w4 ⟨⟨A11, c11, rfl, hr11, hnil11, hc11⟩, hb⟩; have HY := Lib.hid (HY.out.trans (hb.mono HY.out.size)); have HB := Lib.hid (HB.out.trans (hb.mono HB.out.size)); have QA := Lib.hid (QA.out.next hb); have BC := Lib.hid (BC.out.next hb); have R1 := Lib.hid hr11; clear hb) | (go_at_call 12; (with_reducible refine (refReady_b QA.out E1.out (w := w4)).mono ?_); rintro e w5 ⟨⟨A12, c12, rfl, hr12, hnil12, hc12⟩, hb⟩; have HY := Lib.hid (HY.out.trans (hb.mono HY.out.size)); have HB := Lib.hid (HB.out.trans (hb.mono HB.out.size)); have QA := Lib.hid (QA.out.next hb); have BC := Lib.hid (BC.out.next hb); have R1 := Lib.hid (R1.out.next hb); have R2 := Lib.hid hr12; clear hb) | (go_at_call 10; (with_reducible refine (ri_same R1.out R2.out (by have := L1.out; unfold maxLen; omega) (by have := L1.out; unfold maxLen; omega) (same_self r1) (w := w5)).mono ?_); rintro e w6 ⟨rfl, hb⟩; have HY := Lib.hid (HY.out.trans (hb.mono HY.out.size)); have HB := Lib.hid (HB.out.trans (hb.mono HB.out.size)); have QA := Lib.hid (QA.out.next hb); have BC := Lib.hid (BC.out.next hb); have R1 := Lib.hid (R1.out.next hb); have R2 := Lib.hid (R2.out.next hb); clear hb) | (go_at_call 13; (with_reducible refine (h12_lost H QA.out F0.out E2.out (w := w6)).mono ?_); rintro e w7 ⟨⟨A13, c13, rfl, hr13, hnil13, hc13⟩, hb⟩; have HY := Lib.hid (HY.out.trans (hb.mono HY.out.size)); have HB := Lib.hid (HB.out.trans (hb.mono HB.out.size)); have QA := Lib.hid (QA.out.next hb); have BC := Lib.hid (BC.out.next hb); have R1 := Lib.hid (R1.out.next hb); have R2 := Lib.hid (R2.out.next hb); have R3 := Lib.hid hr13; clear hb) | (go_at_call 14; (with_reducible refine (refLost_b QA.out E2.out (w := w7)).mono ?_); rintro e w8 ⟨⟨A14, c14, rfl, hr14, hnil14, hc14⟩, hb⟩; have HY := Lib.hid (HY.out.trans (hb.mono HY.out.size)); have HB := Lib.hid (HB.out.trans (hb.mono HB.out.size)); have QA := Lib.hid (QA.out.next hb); have BC := Lib.hid (BC.out.next hb); have R1 := Lib.hid (R1.out.next hb); have R2 := Lib.hid (R2.out.next hb); have R3 := Lib.hid (R3.out.next hb); have R4 := Lib.hid hr14; clear hb) | (go_at_call 10; (with_reducible refine (ri_same R3.out R4.out (by have := L2.out; unfold maxLen; omega) (by have := L2.out; unfold maxLen; omega) (same_self r2) (w := w8)).mono ?_); rintro e w9 ⟨rfl, hb⟩; have HY := Lib.hid (HY.out.trans (hb.mono HY.out.size)); have HB := Lib.hid (HB.out.trans (hb.mono HB.out.size)); have QA := Lib.hid (QA.out.next hb); have BC := Lib.hid (BC.out.next hb); have R1 := Lib.hid (R1.out.next hb); have R2 := Lib.hid (R2.out.next hb); have R3 := Lib.hid (R3.out.next hb); have R4 := Lib.hid (R4.out.next hb); clear hb) | (go_at_call 15; (with_reducible refine (h12_counts H QA.out F0.out E3.out (w := w9)).mono ?_); rintro e w10 ⟨rfl, hb⟩; have HY := Lib.hid (HY.out.trans (hb.mono HY.out.size)); have HB := Lib.hid (HB.out.trans (hb.mono HB.out.size)); have QA := Lib.hid (QA.out.next hb); have BC := Lib.hid (BC.out.next hb); have R1 := Lib.hid (R1.out.next hb); have R2 := Lib.hid (R2.out.next hb); have R3 := Lib.hid (R3.out.next hb); have R4 := Lib.hid (R4.out.next hb); clear hb) | fail)
      clear HKEEP HY
      clear x0 x1 x2 x3 x4 x5 x6
      go_wp2
      go_ret
      exact ⟨rfl, HB.out⟩

set_option maxRecDepth 100000 in
set_option maxHeartbeats 8000000 in
theorem queueLists_yes (H : QueueOk) (A : Option Addr) (n c : Nat) (l : Qu) (w : World) (hl : QAsk w A n c l) (h0 : shortQ l = true) (hr : RightQ l) :
    Calls Try.prog 3 #[.slice A n c] w fun e w' => e = .returned (.bool true) ∧ Below w.heap.size w w' := by
  have HB := Lib.hid (Below.refl w.heap.size w)
  have QA := Lib.hid hl
  have Q0 := Lib.hid hl
  have E0 := Lib.hid h0
  have HSQ := Lib.hid (of_decide_eq_true h0 : ShortQ l)
  have F0 := Lib.hid (HSQ.out.few)
  have HL := Lib.hid hl.reads.len
  have hn14 : n ≤ 14 := by rw [← hl.reads.len]; exact HSQ.out.1
  obtain ⟨r1, e1⟩ : ∃ r, readyQ l = r := ⟨_, rfl⟩
  obtain ⟨r2, e2⟩ : ∃ r, lostQ l = r := ⟨_, rfl⟩
  obtain ⟨kc, e3⟩ : ∃ r, countsQ l = r := ⟨_, rfl⟩
  have L1 : Hid (r1.length ≤ 100) := Lib.hid (by rw [← e1]; exact Nat.le_trans readyQ_len F0.out.1)
  have L2 : Hid (r2.length ≤ 100) := Lib.hid (by rw [← e2]; exact Nat.le_trans lostQ_len F0.out.1)
  have E1 := Lib.hid e1
  have E2 := Lib.hid e2
  have E3 := Lib.hid e3
  clear hl h0 e1 e2 e3
  have RR : Hid (rightQ l = true) := Lib.hid (decide_eq_true hr)
  have HR := Lib.hid hr
  clear hr
  go_enter Try.func3, Try.ntmps3
  go_wp2_with fail
  refine (awake12_any H _).mono ?_
  rintro e w1 ⟨rfl, hb⟩
  have HBq := Lib.hid (HB.out.trans (hb.mono HB.out.size))
  clear HB
  have HB := HBq
  clear HBq
  have QAq := Lib.hid (QA.out.next hb)
  clear QA
  have QA := QAq
  clear QAq
  clear hb
  go_wp2_with fail
  refine (refShortQ_b QA.out E0.out).mono ?_
  rintro e w2 ⟨rfl, hb⟩
  have HBq := Lib.hid (HB.out.trans (hb.mono HB.out.size))
  clear HB
  have HB := HBq
  clear HBq
  have QAq := Lib.hid (QA.out.next hb)
  clear QA
  have QA := QAq
  clear QAq
  clear hb
  have HB2 := Lib.hid HB.out.size
  have hb := Below.alloc (Below.refl w2.heap.size w2) (Nat.le_refl _) (.cells #[.int .i64 0, .int .i64 0, .int .i64 0, .int .i64 0, .int .i64 0, .int .i64 0, .int .i64 0] 25)
  have BCq := Lib.hid (boxC_new w2 fun _ => 0)
  have HBq := Lib.hid (HB.out.trans (hb.mono HB.out.size))
  clear HB
  have HB := HBq
  clear HBq
  have QAq := Lib.hid (QA.out.next hb)
  clear QA
  have QA := QAq
  clear QAq
  clear hb
  have BC := BCq
  clear BCq
  obtain ⟨g, hg⟩ : ∃ g, w2.heap.size = g := ⟨_, rfl⟩
  rw [hg] at BC
  have BK : Hid (BoxC _ g (cntT l 0)) := Lib.hid (BC.out.ext fun s => (cntT_zero l s).symm)
  clear BC
  have BC := BK
  clear BK
  have HGL : Hid (w.heap.size ≤ g) := Lib.hid (by rw [← hg]; exact HB2.out)
  obtain ⟨W5, hW5⟩ : ∃ W, W = (w2.alloc (.cells #[.int .i64 0, .int .i64 0, .int .i64 0, .int .i64 0, .int .i64 0, .int .i64 0, .int .i64 0] 25)) := ⟨_, rfl⟩
  rw [← hW5] at QA HB
  have B5 : Hid (BoxC W5 g (cntT l 0)) := Lib.hid (by rw [hW5]; exact BC.out)
  clear BC
  have BC := B5
  clear B5
  have Q5 := Lib.hid QA.out
  have HG5 := Lib.hid BC.out.lt
  go_wp2
  try rw [hg]
  rw [← hW5]
  have HGQ := Lib.hid hg
  clear hg hW5
  go_loopw [4] (fun iv wr => ∃ k : Nat, k ≤ n ∧ iv = .int .i64 k ∧ QAsk wr A n c l ∧ BoxC wr g (cntT l k) ∧ Below w.heap.size w wr) (fun iv _ => n - (intOf iv).toNat)
  case atStart => exact ⟨0, Nat.zero_le _, rfl, QA.out, BC.out, HB.out⟩
  case round =>
    clear QA BC HB Q5 HG5
    obtain ⟨k, hk, rfl, hq, hbc, hb⟩ := hrel
    have QA := Lib.hid hq
    have BC := Lib.hid hbc
    have HB := Lib.hid hb
    clear hq hbc hb
    by_cases hlt : k < n
    · have hkl : k < l.length := by rw [HL.out]; exact hlt
      have HST := Lib.hid (HR.out.job hkl).2.2.1.1
      have HSTEP := Lib.hid (fun s => cntT_step hkl s)
      have HCL := Lib.hid (fun s => cntT_le l k s)
      clear hkl
      go_wp2_with fail
      refine (refRightQ_b QA.out RR.out).mono ?_
      rintro e w3 ⟨rfl, hb⟩
      have HBq := Lib.hid (HB.out.trans (hb.mono HB.out.size))
      clear HB
      have HB := HBq
      clear HBq
      have QAq := Lib.hid (QA.out.next hb)
      clear QA
      have QA := QAq
      clear QAq
      have BCq := Lib.hid (BC.out.next hb)
      clear BC
      have BC := BCq
      clear BCq
      clear hb
      obtain ⟨b, off, A3, m3, c3, rfl, hb1, ⟨e0, e1, e2, e3, e4, e5, e6, e7, e8, e9, e10, e11, e12⟩, _⟩ := QA.out.reads.one hlt
      clear e0 e1 e2 e3 e4 e5 e6 e7 e8 e10 e11 e12
      have hst := HST.out
      rcases (show (jAt l k).state = 0 ∨ (jAt l k).state = 1 ∨ (jAt l k).state = 2 ∨ (jAt l k).state = 3 ∨ (jAt l k).state = 4 ∨ (jAt l k).state = 5 ∨ (jAt l k).state = 6 by omega) with hx | hx | hx | hx | hx | hx | hx
      · rw [hx] at e9 HSTEP
        clear hx hst hb1
        have xc := BC.out.c0
        have xf := BC.out.frozen 0
        have hcl := HCL.out 0
        obtain ⟨cv, hcv⟩ : ∃ v, cntT l k 0 = v := ⟨_, rfl⟩
        rw [hcv] at xc hcl
        have wv : IntKind.i64.wrap (cv + 1) = cv + 1 := IntWalk.i64_in _ (by omega)
        have BN : Hid (BoxC (w3.setCell ⟨g, 0, none⟩ (.int .i64 (cv + 1))) g (cntT l (k + 1))) := Lib.hid (BC.out.set0 _ (by rw [HSTEP.out, if_pos rfl, hcv]) (fun s hs => by rw [HSTEP.out, if_neg (fun e => hs e.symm)]))
        have HBN : Hid (Below w.heap.size w (w3.setCell ⟨g, 0, none⟩ (.int .i64 (cv + 1)))) := Lib.hid (HB.out.setCell (p := ⟨g, 0, none⟩) HGL.out _)
        clear hcv
        go_wp2
        go_roundw
        case rel => exact ⟨k + 1, by omega, by go_num, Q0.out.next HBN.out, BN.out, HBN.out⟩
        case measure => simp [intOf]; omega
      · rw [hx] at e9 HSTEP
        clear hx hst hb1
        have xc := BC.out.c1
        have xf := BC.out.frozen 1
        have hcl := HCL.out 1
        obtain ⟨cv, hcv⟩ : ∃ v, cntT l k 1 = v := ⟨_, rfl⟩
        rw [hcv] at xc hcl
        have wv : IntKind.i64.wrap (cv + 1) = cv + 1 := IntWalk.i64_in _ (by omega)
        have BN : Hid (BoxC (w3.setCell ⟨g, 1, none⟩ (.int .i64 (cv + 1))) g (cntT l (k + 1))) := Lib.hid (BC.out.set1 _ (by rw [HSTEP.out, if_pos rfl, hcv]) (fun s hs => by rw [HSTEP.out, if_neg (fun e => hs e.symm)]))
        have HBN : Hid (Below w.heap.size w (w3.setCell ⟨g, 1, none⟩ (.int .i64 (cv + 1)))) := Lib.hid (HB.out.setCell (p := ⟨g, 1, none⟩) HGL.out _)
        clear hcv
        go_wp2
        go_roundw
        case rel => exact ⟨k + 1, by omega, by go_num, Q0.out.next HBN.out, BN.out, HBN.out⟩
        case measure => simp [intOf]; omega
      · rw [hx] at e9 HSTEP
        clear hx hst hb1
        have xc := BC.out.c2
        have xf := BC.out.frozen 2
        have hcl := HCL.out 2
        obtain ⟨cv, hcv⟩ : ∃ v, cntT l k 2 = v := ⟨_, rfl⟩
        rw [hcv] at xc hcl
        have wv : IntKind.i64.wrap (cv + 1) = cv + 1 := IntWalk.i64_in _ (by omega)
        have BN : Hid (BoxC (w3.setCell ⟨g, 2, none⟩ (.int .i64 (cv + 1))) g (cntT l (k + 1))) := Lib.hid (BC.out.set2 _ (by rw [HSTEP.out, if_pos rfl, hcv]) (fun s hs => by rw [HSTEP.out, if_neg (fun e => hs e.symm)]))
        have HBN : Hid (Below w.heap.size w (w3.setCell ⟨g, 2, none⟩ (.int .i64 (cv + 1)))) := Lib.hid (HB.out.setCell (p := ⟨g, 2, none⟩) HGL.out _)
        clear hcv
        go_wp2
        go_roundw
        case rel => exact ⟨k + 1, by omega, by go_num, Q0.out.next HBN.out, BN.out, HBN.out⟩
        case measure => simp [intOf]; omega
      · rw [hx] at e9 HSTEP
        clear hx hst hb1
        have xc := BC.out.c3
        have xf := BC.out.frozen 3
        have hcl := HCL.out 3
        obtain ⟨cv, hcv⟩ : ∃ v, cntT l k 3 = v := ⟨_, rfl⟩
        rw [hcv] at xc hcl
        have wv : IntKind.i64.wrap (cv + 1) = cv + 1 := IntWalk.i64_in _ (by omega)
        have BN : Hid (BoxC (w3.setCell ⟨g, 3, none⟩ (.int .i64 (cv + 1))) g (cntT l (k + 1))) := Lib.hid (BC.out.set3 _ (by rw [HSTEP.out, if_pos rfl, hcv]) (fun s hs => by rw [HSTEP.out, if_neg (fun e => hs e.symm)]))
        have HBN : Hid (Below w.heap.size w (w3.setCell ⟨g, 3, none⟩ (.int .i64 (cv + 1)))) := Lib.hid (HB.out.setCell (p := ⟨g, 3, none⟩) HGL.out _)
        clear hcv
        go_wp2
        go_roundw
        case rel => exact ⟨k + 1, by omega, by go_num, Q0.out.next HBN.out, BN.out, HBN.out⟩
        case measure => simp [intOf]; omega
      · rw [hx] at e9 HSTEP
        clear hx hst hb1
        have xc := BC.out.c4
        have xf := BC.out.frozen 4
        have hcl := HCL.out 4
        obtain ⟨cv, hcv⟩ : ∃ v, cntT l k 4 = v := ⟨_, rfl⟩
        rw [hcv] at xc hcl
        have wv : IntKind.i64.wrap (cv + 1) = cv + 1 := IntWalk.i64_in _ (by omega)
        have BN : Hid (BoxC (w3.setCell ⟨g, 4, none⟩ (.int .i64 (cv + 1))) g (cntT l (k + 1))) := Lib.hid (BC.out.set4 _ (by rw [HSTEP.out, if_pos rfl, hcv]) (fun s hs => by rw [HSTEP.out, if_neg (fun e => hs e.symm)]))
        have HBN : Hid (Below w.heap.size w (w3.setCell ⟨g, 4, none⟩ (.int .i64 (cv + 1)))) := Lib.hid (HB.out.setCell (p := ⟨g, 4, none⟩) HGL.out _)
        clear hcv
        go_wp2
        go_roundw
        case rel => exact ⟨k + 1, by omega, by go_num, Q0.out.next HBN.out, BN.out, HBN.out⟩
        case measure => simp [intOf]; omega
      · rw [hx] at e9 HSTEP
        clear hx hst hb1
        have xc := BC.out.c5
        have xf := BC.out.frozen 5
        have hcl := HCL.out 5
        obtain ⟨cv, hcv⟩ : ∃ v, cntT l k 5 = v := ⟨_, rfl⟩
        rw [hcv] at xc hcl
        have wv : IntKind.i64.wrap (cv + 1) = cv + 1 := IntWalk.i64_in _ (by omega)
        have BN : Hid (BoxC (w3.setCell ⟨g, 5, none⟩ (.int .i64 (cv + 1))) g (cntT l (k + 1))) := Lib.hid (BC.out.set5 _ (by rw [HSTEP.out, if_pos rfl, hcv]) (fun s hs => by rw [HSTEP.out, if_neg (fun e => hs e.symm)]))
        have HBN : Hid (Below w.heap.size w (w3.setCell ⟨g, 5, none⟩ (.int .i64 (cv + 1)))) := Lib.hid (HB.out.setCell (p := ⟨g, 5, none⟩) HGL.out _)
        clear hcv
        go_wp2
        go_roundw
        case rel => exact ⟨k + 1, by omega, by go_num, Q0.out.next HBN.out, BN.out, HBN.out⟩
        case measure => simp [intOf]; omega
      · rw [hx] at e9 HSTEP
        clear hx hst hb1
        have xc := BC.out.c6
        have xf := BC.out.frozen 6
        have hcl := HCL.out 6
        obtain ⟨cv, hcv⟩ : ∃ v, cntT l k 6 = v := ⟨_, rfl⟩
        rw [hcv] at xc hcl
        have wv : IntKind.i64.wrap (cv + 1) = cv + 1 := IntWalk.i64_in _ (by omega)
        have BN : Hid (BoxC (w3.setCell ⟨g, 6, none⟩ (.int .i64 (cv + 1))) g (cntT l (k + 1))) := Lib.hid (BC.out.set6 _ (by rw [HSTEP.out, if_pos rfl, hcv]) (fun s hs => by rw [HSTEP.out, if_neg (fun e => hs e.symm)]))
        have HBN : Hid (Below w.heap.size w (w3.setCell ⟨g, 6, none⟩ (.int .i64 (cv + 1)))) := Lib.hid (HB.out.setCell (p := ⟨g, 6, none⟩) HGL.out _)
        clear hcv
        go_wp2
        go_roundw
        case rel => exact ⟨k + 1, by omega, by go_num, Q0.out.next HBN.out, BN.out, HBN.out⟩
        case measure => simp [intOf]; omega
    · obtain rfl : k = n := by omega
      have BK : Hid (BoxC wr g kc) := Lib.hid (BC.out.ext fun s => by rw [← E3.out, ← HL.out]; exact cntT_all HR.out s)
      clear BC
      have BC := BK
      clear BK
      have EQ7 : ∀ W : World, _ := fun W => run_eq7 (kc 0) (kc 1) (kc 2) (kc 3) (kc 4) (kc 5) (kc 6) W
      have x0 := BC.out.c0
      have x1 := BC.out.c1
      have x2 := BC.out.c2
      have x3 := BC.out.c3
      have x4 := BC.out.c4
      have x5 := BC.out.c5
      have x6 := BC.out.c6
      go_wp2
      have HKEEP : Hid (∀ wx, Below wr.drew.heap.size wr.drew wx → wx.cell? ⟨g, 0, none⟩ = some (.int .i64 (kc 0)) ∧ wx.cell? ⟨g, 1, none⟩ = some (.int .i64 (kc 1)) ∧ wx.cell? ⟨g, 2, none⟩ = some (.int .i64 (kc 2)) ∧ wx.cell? ⟨g, 3, none⟩ = some (.int .i64 (kc 3)) ∧ wx.cell? ⟨g, 4, none⟩ = some (.int .i64 (kc 4)) ∧ wx.cell? ⟨g, 5, none⟩ = some (.int .i64 (kc 5)) ∧ wx.cell? ⟨g, 6, none⟩ = some (.int .i64 (kc 6))) := Lib.hid (fun wx hz' => by
        have hz := (bel_drew1 wr).trans (hz'.mono (bel_drew1 wr).size)
        exact ⟨keep_cell BC.out.lt x0 hz, keep_cell BC.out.lt x1 hz, keep_cell BC.out.lt x2 hz, keep_cell BC.out.lt x3 hz, keep_cell BC.out.lt x4 hz, keep_cell BC.out.lt x5 hz, keep_cell BC.out.lt x6 hz⟩)
      have hd := bel_drew1 wr
      have HBq := Lib.hid (HB.out.trans (hd.mono HB.out.size))
      clear HB
      have HB := HBq
      clear HBq
      have QAq := Lib.hid (QA.out.next hd)
      clear QA
      have QA := QAq
      clear QAq
      have BCq := Lib.hid (BC.out.next hd)
      clear BC
      have BC := BCq
      clear BCq
      clear hd
      have HY := Lib.hid (Below.refl wr.drew.heap.size wr.drew)
      go_region_held3 (fun w' => w'.cell? ⟨g, 0, none⟩ = some (.int .i64 (kc 0)) ∧ w'.cell? ⟨g, 1, none⟩ = some (.int .i64 (kc 1)) ∧ w'.cell? ⟨g, 2, none⟩ = some (.int .i64 (kc 2)) ∧ w'.cell? ⟨g, 3, none⟩ = some (.int .i64 (kc 3)) ∧ w'.cell? ⟨g, 4, none⟩ = some (.int .i64 (kc 4)) ∧ w'.cell? ⟨g, 5, none⟩ = some (.int .i64 (kc 5)) ∧ w'.cell? ⟨g, 6, none⟩ = some (.int .i64 (kc 6)))
        (first | exact HKEEP.out _ (Below.refl _ _) | exact HKEEP.out _ HY.out | exact HKEEP.out _ (HY.out.alloc HY.out.size _) | go_keep | fail)
        (first | (go_at_call 11; (with_reducible refine (h12_ready H QA.out F0.out E1.out (w := wr.drew)).mono ?_); rintro e w4 ⟨⟨A11, c11, rfl, hr11, hnil11, hc11⟩, hb⟩; have HY := Lib.hid (HY.out.trans (hb.mono HY.out.size)); have HB := Lib.hid (HB.out.trans (hb.mono HB.out.size)); have QA := Lib.hid (QA.out.next hb); have BC := Lib.hid (BC.out.next hb); have R1 := Lib.hid hr11; clear hb) | (go_at_call 12; (with_reducible refine (refReady_b QA.out E1.out (w := w4)).mono ?_); rintro e w5 ⟨⟨A12, c12, rfl, hr12, hnil12, hc12⟩, hb⟩; have HY := Lib.hid (HY.out.trans (hb.mono HY.out.size)); have HB := Lib.hid (HB.out.trans (hb.mono HB.out.size)); have QA := Lib.hid (QA.out.next hb); have BC := Lib.hid (BC.out.next hb); have R1 := Lib.hid (R1.out.next hb); have R2 := Lib.hid hr12; clear hb) | (go_at_call 10; (with_reducible refine (ri_same R1.out R2.out (by have := L1.out; unfold maxLen; omega) (by have := L1.out; unfold maxLen; omega) (same_self r1) (w := w5)).mono ?_); rintro e w6 ⟨rfl, hb⟩; have HY := Lib.hid (HY.out.trans (hb.mono HY.out.size)); have HB := Lib.hid (HB.out.trans (hb.mono HB.out.size)); have QA := Lib.hid (QA.out.next hb); have BC := Lib.hid (BC.out.next hb); have R1 := Lib.hid (R1.out.next hb); have R2 := Lib.hid (R2.out.next hb); clear hb) | (go_at_call 13; (with_reducible refine (h12_lost H QA.out F0.out E2.out (w := w6)).mono ?_); rintro e w7 ⟨⟨A13, c13, rfl, hr13, hnil13, hc13⟩, hb⟩; have HY := Lib.hid (HY.out.trans (hb.mono HY.out.size)); have HB := Lib.hid (HB.out.trans (hb.mono HB.out.size)); have QA := Lib.hid (QA.out.next hb); have BC := Lib.hid (BC.out.next hb); have R1 := Lib.hid (R1.out.next hb); have R2 := Lib.hid (R2.out.next hb); have R3 := Lib.hid hr13; clear hb) | (go_at_call 14; (with_reducible refine (refLost_b QA.out E2.out (w := w7)).mono ?_); rintro e w8 ⟨⟨A14, c14, rfl, hr14, hnil14, hc14⟩, hb⟩; have HY := Lib.hid (HY.out.trans (hb.mono HY.out.size)); have HB := Lib.hid (HB.out.trans (hb.mono HB.out.size)); have QA := Lib.hid (QA.out.next hb); have BC := Lib.hid (BC.out.next hb); have R1 := Lib.hid (R1.out.next hb); have R2 := Lib.hid (R2.out.next hb); have R3 := Lib.hid (R3.out.next hb); have R4 := Lib.hid hr14; clear hb) | (go_at_call 10; (with_reducible refine (ri_same R3.out R4.out (by have := L2.out; unfold maxLen; omega) (by have := L2.out; unfold maxLen; omega) (same_self r2) (w := w8)).mono ?_); rintro e w9 ⟨rfl, hb⟩; have HY := Lib.hid (HY.out.trans (hb.mono HY.out.size)); have HB := Lib.hid (HB.out.trans (hb.mono HB.out.size)); have QA := Lib.hid (QA.out.next hb); have BC := Lib.hid (BC.out.next hb); have R1 := Lib.hid (R1.out.next hb); have R2 := Lib.hid (R2.out.next hb); have R3 := Lib.hid (R3.out.next hb); have R4 := Lib.hid (R4.out.next hb); clear hb) | (go_at_call 15; (with_reducible refine (h12_counts H QA.out F0.out E3.out (w := w9)).mono ?_); rintro e w10 ⟨rfl, hb⟩; have HY := Lib.hid (HY.out.trans (hb.mono HY.out.size)); have HB := Lib.hid (HB.out.trans (hb.mono HB.out.size)); have QA := Lib.hid (QA.out.next hb); have BC := Lib.hid (BC.out.next hb); have R1 := Lib.hid (R1.out.next hb); have R2 := Lib.hid (R2.out.next hb); have R3 := Lib.hid (R3.out.next hb); have R4 := Lib.hid (R4.out.next hb); clear hb) | fail)
      clear HKEEP HY
      clear x0 x1 x2 x3 x4 x5 x6
      go_wp2
      go_ret
      exact ⟨rfl, HB.out⟩


theorem queueLists_walk (H : QueueOk) (A : Option Addr) (n c : Nat) (l : Qu) (w : World) (hl : QAsk w A n c l) : Calls Try.prog 3 #[.slice A n c] w fun e w' => e = .returned (.bool true) ∧ Below w.heap.size w w' := by
  cases h0 : shortQ l with
  | false => exact queueLists_l H A n c l w hl h0
  | true =>
    cases hr : rightQ l with
    | false => exact queueLists_no H A n c l w hl h0 hr
    | true => exact queueLists_yes H A n c l w hl h0 (of_decide_eq_true hr)

end Go.Proofs.Ytimgdlddfnglaaa
