/- The program's Counts of layer 12. Written by gen/gen_queuep.py. Plain facts for sorting by exchanges: a row of jobs as a function of the place. No program's text is walked here. Plain facts for Go's stable merge: a merge is split, its halves merged. No program's text is walked here. Plain facts for Go's stable sort: sorted blocks, twice as long from round to round. No program's text is walked here. -/
import Derived.Test.YtimgdlddfnglaaaMg23
import Derived.Test.YtimgdlddfnglaaaMg08
import Derived.Test.YtimgdlddfnglaaaMg24
import Derived.Test.YtimgdlddfnglaaaMg06
namespace Go.Proofs.Ytimgdlddfnglaaa
open Go.RowKit

section
variable {wr w : World} {g g' B : Nat} {f f' : Int → Int} {v0 v1 v2 v3 v4 v5 v6 : Value}
theorem BoxC.other {k : Nat} {v : Value} (h : BoxC wr g f) (hne : g ≠ g') : BoxC (wr.setCell ⟨g', k, none⟩ v) g f :=
  ⟨by simpa [World.setCell] using h.lt, (Below.heap_setCell _ _ _ _ hne).trans h.at'⟩
/-- a queue that was there, read later, whatever was made or stored behind it -/
theorem QAsk.upon {A : Option Addr} {n c : Nat} {l : Qu} (h : QAsk w A n c l) (hb : Below w.heap.size w wr) : QAsk wr A n c l := h.next hb
theorem BoxC.store (h : BoxC wr g f) (f' : Int → Int) : BoxC (wr.setCells g 0 [.int .i64 (f' 0), .int .i64 (f' 1), .int .i64 (f' 2), .int .i64 (f' 3), .int .i64 (f' 4), .int .i64 (f' 5), .int .i64 (f' 6)]) g f' := by
  have h1 : (wr.setCells g 0 [.int .i64 (f' 0), .int .i64 (f' 1), .int .i64 (f' 2), .int .i64 (f' 3), .int .i64 (f' 4), .int .i64 (f' 5), .int .i64 (f' 6)]).heap[g]? = some (c7O f') := by
    show ((((((((wr.setCell ⟨g, 0, none⟩ (.int .i64 (f' 0))).setCell ⟨g, 1, none⟩ (.int .i64 (f' 1))).setCell ⟨g, 2, none⟩ (.int .i64 (f' 2))).setCell ⟨g, 3, none⟩ (.int .i64 (f' 3))).setCell ⟨g, 4, none⟩ (.int .i64 (f' 4))).setCell ⟨g, 5, none⟩ (.int .i64 (f' 5))).setCell ⟨g, 6, none⟩ (.int .i64 (f' 6)))).heap[g]? = _
    simp only [World.setCell, Array.getElem?_modify, if_true, h.at', Option.map_some]
    rfl
  exact ⟨(Array.getElem?_eq_some_iff.1 h1).1, h1⟩
end
set_option maxRecDepth 100000 in
set_option maxHeartbeats 8000000 in
theorem countsQP_no {A : Option Addr} {n c : Nat} {l : Qu} {w : World} (hl : QAsk w A n c l) (hr : rightQ l = false) : Calls Try.prog 15 #[.slice A n c] w fun e w' => e = .returned (.agg #[.int .i64 0, .int .i64 0, .int .i64 0, .int .i64 0, .int .i64 0, .int .i64 0, .int .i64 0]) ∧ Below w.heap.size w w' := by
  obtain ⟨W, hW⟩ : ∃ W, W = (w.alloc (.cells #[.int .i64 0, .int .i64 0, .int .i64 0, .int .i64 0, .int .i64 0, .int .i64 0, .int .i64 0] 25)).alloc (.cells #[.int .i64 0, .int .i64 0, .int .i64 0, .int .i64 0, .int .i64 0, .int .i64 0, .int .i64 0] 25) := ⟨_, rfl⟩
  have br : BoxC W w.heap.size (fun _ => 0) := by
    rw [hW]; exact (boxC_new w (fun _ => 0)).next ((Below.refl _ _).alloc (Nat.le_refl _) _)
  have bc : BoxC W (w.heap.size + 1) (fun _ => 0) := by
    have := boxC_new (w.alloc (.cells #[.int .i64 0, .int .i64 0, .int .i64 0, .int .i64 0, .int .i64 0, .int .i64 0, .int .i64 0] 25)) (fun _ => 0)
    rw [show (w.alloc (.cells #[.int .i64 0, .int .i64 0, .int .i64 0, .int .i64 0, .int .i64 0, .int .i64 0, .int .i64 0] 25)).heap.size = w.heap.size + 1 by simp] at this
    rw [hW]; exact this
  have hb0 : Below w.heap.size w W := by rw [hW]; exact ((Below.refl _ _).alloc (Nat.le_refl _) _).alloc (by simp) _
  have HB := Lib.hid hb0
  have QA := Lib.hid (hl.next hb0)
  have BRq := Lib.hid br
  have BCq := Lib.hid bc
  have RR := Lib.hid hr
  clear br bc hb0 hl hr
  go_enter Try.func15, Try.ntmps15
  go_wp2_with fail
  rw [← hW]
  clear hW
  refine (rightQP_b QA.out RR.out).mono ?_
  rintro e w1 ⟨rfl, hb⟩
  have HB1 := Lib.hid (HB.out.trans (hb.mono HB.out.size))
  have BR := Lib.hid (BRq.out.next hb)
  have BC := Lib.hid (BCq.out.next hb)
  clear hb HB BRq BCq QA
  have q0 := BC.out.c0
  have q1 := BC.out.c1
  have q2 := BC.out.c2
  have q3 := BC.out.c3
  have q4 := BC.out.c4
  have q5 := BC.out.c5
  have q6 := BC.out.c6
  have p0 := BR.out.c0
  have v0 := BR.out.frozen 0
  have p1 := BR.out.c1
  have v1 := BR.out.frozen 1
  have p2 := BR.out.c2
  have v2 := BR.out.frozen 2
  have p3 := BR.out.c3
  have v3 := BR.out.frozen 3
  have p4 := BR.out.c4
  have v4 := BR.out.frozen 4
  have p5 := BR.out.c5
  have v5 := BR.out.frozen 5
  have p6 := BR.out.c6
  have v6 := BR.out.frozen 6
  go_wp2
  have b1 := BR.out.store (fun _ => 0)
  have HBF := below_setRow (g := w.heap.size) (Nat.le_refl _) [.int .i64 0, .int .i64 0, .int .i64 0, .int .i64 0, .int .i64 0, .int .i64 0, .int .i64 0] 0 _ HB1.out
  have r0 := b1.c0
  have r1 := b1.c1
  have r2 := b1.c2
  have r3 := b1.c3
  have r4 := b1.c4
  have r5 := b1.c5
  have r6 := b1.c6
  simp only [World.setCells] at r0 r1 r2 r3 r4 r5 r6
  refine bodyPost_ret (v := .agg #[.int .i64 0, .int .i64 0, .int .i64 0, .int .i64 0, .int .i64 0, .int .i64 0, .int .i64 0]) (by simp [results, Try.results15, go_sem, r0, r1, r2, r3, r4, r5, r6]) rfl ⟨rfl, HBF⟩
set_option maxRecDepth 100000 in
set_option maxHeartbeats 8000000 in
theorem countsQP_yes {A : Option Addr} {n c : Nat} {l : Qu} {w : World} (hl : QAsk w A n c l) (hr : RightQ l) : Calls Try.prog 15 #[.slice A n c] w fun e w' => e = .returned (.agg #[.int .i64 (countsQ l 0), .int .i64 (countsQ l 1), .int .i64 (countsQ l 2), .int .i64 (countsQ l 3), .int .i64 (countsQ l 4), .int .i64 (countsQ l 5), .int .i64 (countsQ l 6)]) ∧ Below w.heap.size w w' := by
  obtain ⟨W, hW⟩ : ∃ W, W = (w.alloc (.cells #[.int .i64 0, .int .i64 0, .int .i64 0, .int .i64 0, .int .i64 0, .int .i64 0, .int .i64 0] 25)).alloc (.cells #[.int .i64 0, .int .i64 0, .int .i64 0, .int .i64 0, .int .i64 0, .int .i64 0, .int .i64 0] 25) := ⟨_, rfl⟩
  have br : BoxC W w.heap.size (fun _ => 0) := by
    rw [hW]; exact (boxC_new w (fun _ => 0)).next ((Below.refl _ _).alloc (Nat.le_refl _) _)
  have bc : BoxC W (w.heap.size + 1) (cntT l 0) := by
    have := boxC_new (w.alloc (.cells #[.int .i64 0, .int .i64 0, .int .i64 0, .int .i64 0, .int .i64 0, .int .i64 0, .int .i64 0] 25)) (fun _ => 0)
    rw [show (w.alloc (.cells #[.int .i64 0, .int .i64 0, .int .i64 0, .int .i64 0, .int .i64 0, .int .i64 0, .int .i64 0] 25)).heap.size = w.heap.size + 1 by simp] at this
    rw [hW]; exact this
  have hb0 : Below w.heap.size w W := by rw [hW]; exact ((Below.refl _ _).alloc (Nat.le_refl _) _).alloc (by simp) _
  have HB := Lib.hid hb0
  have QA := Lib.hid (hl.next hb0)
  have BRq := Lib.hid br
  have BCq := Lib.hid bc
  have HL := Lib.hid hl.reads.len
  have Q0 := Lib.hid hl
  have RR : Hid (rightQ l = true) := Lib.hid (decide_eq_true hr)
  have HR := Lib.hid hr
  have hn64 : n ≤ 64 := by rw [← hl.reads.len]; exact hr.1
  clear br bc hb0 hl hr
  go_enter Try.func15, Try.ntmps15
  go_wp2_with fail
  rw [← hW]
  clear hW
  refine (rightQP_b QA.out RR.out).mono ?_
  rintro e w1 ⟨rfl, hb⟩
  have HB1 := Lib.hid (HB.out.trans (hb.mono HB.out.size))
  have BR1 := Lib.hid (BRq.out.next hb)
  have BC1 := Lib.hid (BCq.out.next hb)
  have Q1 := Lib.hid (QA.out.next hb)
  clear hb HB BRq BCq QA
  go_wp2
  go_loopw [12] (fun iv wr => ∃ (k : Nat), k ≤ n ∧ iv = .int .i64 k ∧ QAsk wr A n c l ∧ Below w.heap.size w wr ∧ BoxC wr w.heap.size (fun _ => 0) ∧ BoxC wr (w.heap.size + 1) (cntT l k)) (fun iv _ => n - (intOf iv).toNat)
  case atStart => exact ⟨0, Nat.zero_le _, rfl, Q1.out, HB1.out, BR1.out, BC1.out⟩
  case round =>
    clear Q1 HB1 BR1 BC1
    obtain ⟨k, hk, rfl, hq, hbl, hbr, hbc⟩ := hrel
    have QAI := Lib.hid hq
    have HB1 := Lib.hid hbl
    have BR1 := Lib.hid hbr
    have BC1 := Lib.hid hbc
    clear hq hbl hbr hbc
    by_cases hlt : k < n
    · have hkl : k < l.length := by rw [HL.out]; exact hlt
      have HSTEP := Lib.hid (fun s => cntT_step hkl s)
      have hst := (HR.out.job hkl).2.2.1.1
      have hle := fun s => cntT_le l k s
      obtain ⟨b, off, A3, m3, c3, rfl, hb1, ⟨e0, e1, e2, e3, e4, e5, e6, e7, e8, e9, e10, e11, e12⟩, ja⟩ := QAI.out.reads.one hlt
      obtain ⟨x, hx⟩ : ∃ x, jAt l k = x := ⟨_, rfl⟩
      rw [hx] at ja e0 e1 e2 e3 e4 e5 e6 e7 e9 e10 e11 e12
      rw [hx] at HSTEP hst
      have hba : Below wr.heap.size wr (wr.alloc (.cells #[.int .i64 x.id, .int .i64 x.spec.nodes, .int .i64 x.spec.cores, .int .i64 x.spec.gpus, .string x.spec.tag, .bool x.spec.whole, .int .i64 x.spec.long, .int .i64 x.spec.prio, .slice A3 m3 c3, .int .i64 x.state, .int .i64 x.came, .int .i64 x.frm, .int .i64 x.to] 30)) := (Below.refl _ _).alloc (Nat.le_refl _) _
      have HB2 := Lib.hid (HB1.out.trans (hba.mono HB1.out.size))
      have BR2 := Lib.hid (BR1.out.next hba)
      have BC := Lib.hid (BC1.out.next hba)
      have Q2 := Lib.hid (QAI.out.next hba)
      have q9 := (boxJ_new wr x A3 m3 c3).c9
      clear hba hx ja hkl hb1 HB1 BR1 BC1 QAI
      obtain ⟨W1, hW1⟩ : ∃ W1, wr.alloc (.cells #[.int .i64 x.id, .int .i64 x.spec.nodes, .int .i64 x.spec.cores, .int .i64 x.spec.gpus, .string x.spec.tag, .bool x.spec.whole, .int .i64 x.spec.long, .int .i64 x.spec.prio, .slice A3 m3 c3, .int .i64 x.state, .int .i64 x.came, .int .i64 x.frm, .int .i64 x.to] 30) = W1 := ⟨_, rfl⟩
      have HLT2 : Hid (w.heap.size + 1 < W1.heap.size) := Lib.hid (by rw [← hW1]; exact BC.out.lt)
      have hs7 : x.state = 0 ∨ x.state = 1 ∨ x.state = 2 ∨ x.state = 3 ∨ x.state = 4 ∨ x.state = 5 ∨ x.state = 6 := by omega
      clear hst
      rcases hs7 with hs | hs | hs | hs | hs | hs | hs
      · have HXS : Hid (x.state = 0) := Lib.hid hs
        rw [hs] at e9 BC BR2 HB2
        have hcc := hle 0
        obtain ⟨y, hy⟩ : ∃ y, cntT l k 0 = y := ⟨_, rfl⟩
        have HY := Lib.hid hy
        have z0 := BC.out.c0
        have z1 := BC.out.frozen 0
        have HN : Hid (BoxC ((wr.alloc (.cells #[.int .i64 x.id, .int .i64 x.spec.nodes, .int .i64 x.spec.cores, .int .i64 x.spec.gpus, .string x.spec.tag, .bool x.spec.whole, .int .i64 x.spec.long, .int .i64 x.spec.prio, .slice A3 m3 c3, .int .i64 0, .int .i64 x.came, .int .i64 x.frm, .int .i64 x.to] 30)).setCell ⟨w.heap.size + 1, 0, none⟩ (.int .i64 (y + 1))) (w.heap.size + 1) (cntT l (k + 1))) := Lib.hid (BC.out.set0 _ (by rw [HSTEP.out, if_pos HXS.out, HY.out]) (fun s hs => by rw [HSTEP.out, if_neg (by rw [HXS.out]; exact fun e => hs e.symm)]))
        have HNR : Hid (BoxC ((wr.alloc (.cells #[.int .i64 x.id, .int .i64 x.spec.nodes, .int .i64 x.spec.cores, .int .i64 x.spec.gpus, .string x.spec.tag, .bool x.spec.whole, .int .i64 x.spec.long, .int .i64 x.spec.prio, .slice A3 m3 c3, .int .i64 0, .int .i64 x.came, .int .i64 x.frm, .int .i64 x.to] 30)).setCell ⟨w.heap.size + 1, 0, none⟩ (.int .i64 (y + 1))) w.heap.size (fun _ => 0)) := Lib.hid (BR2.out.other (by omega))
        have HNB : Hid (Below w.heap.size w ((wr.alloc (.cells #[.int .i64 x.id, .int .i64 x.spec.nodes, .int .i64 x.spec.cores, .int .i64 x.spec.gpus, .string x.spec.tag, .bool x.spec.whole, .int .i64 x.spec.long, .int .i64 x.spec.prio, .slice A3 m3 c3, .int .i64 0, .int .i64 x.came, .int .i64 x.frm, .int .i64 x.to] 30)).setCell ⟨w.heap.size + 1, 0, none⟩ (.int .i64 (y + 1)))) := Lib.hid (HB2.out.setCell (p := ⟨_, _, none⟩) (Nat.le_succ _) _)
        have HNQ : Hid (QAsk ((wr.alloc (.cells #[.int .i64 x.id, .int .i64 x.spec.nodes, .int .i64 x.spec.cores, .int .i64 x.spec.gpus, .string x.spec.tag, .bool x.spec.whole, .int .i64 x.spec.long, .int .i64 x.spec.prio, .slice A3 m3 c3, .int .i64 0, .int .i64 x.came, .int .i64 x.frm, .int .i64 x.to] 30)).setCell ⟨w.heap.size + 1, 0, none⟩ (.int .i64 (y + 1))) (some ⟨b, off, none⟩) n c l) := Lib.hid (Q0.out.upon HNB.out)
        rw [hy] at z0 hcc
        clear hs hy hle HLT2 hW1 q9 Q2
        go_wp2
        go_roundw
        case rel => exact ⟨k + 1, by omega, by go_num, HNQ.out, HNB.out, HNR.out, HN.out⟩
        case measure => simp [intOf]; omega
      · have HXS : Hid (x.state = 1) := Lib.hid hs
        rw [hs] at e9 BC BR2 HB2
        have hcc := hle 1
        obtain ⟨y, hy⟩ : ∃ y, cntT l k 1 = y := ⟨_, rfl⟩
        have HY := Lib.hid hy
        have z0 := BC.out.c1
        have z1 := BC.out.frozen 1
        have HN : Hid (BoxC ((wr.alloc (.cells #[.int .i64 x.id, .int .i64 x.spec.nodes, .int .i64 x.spec.cores, .int .i64 x.spec.gpus, .string x.spec.tag, .bool x.spec.whole, .int .i64 x.spec.long, .int .i64 x.spec.prio, .slice A3 m3 c3, .int .i64 1, .int .i64 x.came, .int .i64 x.frm, .int .i64 x.to] 30)).setCell ⟨w.heap.size + 1, 1, none⟩ (.int .i64 (y + 1))) (w.heap.size + 1) (cntT l (k + 1))) := Lib.hid (BC.out.set1 _ (by rw [HSTEP.out, if_pos HXS.out, HY.out]) (fun s hs => by rw [HSTEP.out, if_neg (by rw [HXS.out]; exact fun e => hs e.symm)]))
        have HNR : Hid (BoxC ((wr.alloc (.cells #[.int .i64 x.id, .int .i64 x.spec.nodes, .int .i64 x.spec.cores, .int .i64 x.spec.gpus, .string x.spec.tag, .bool x.spec.whole, .int .i64 x.spec.long, .int .i64 x.spec.prio, .slice A3 m3 c3, .int .i64 1, .int .i64 x.came, .int .i64 x.frm, .int .i64 x.to] 30)).setCell ⟨w.heap.size + 1, 1, none⟩ (.int .i64 (y + 1))) w.heap.size (fun _ => 0)) := Lib.hid (BR2.out.other (by omega))
        have HNB : Hid (Below w.heap.size w ((wr.alloc (.cells #[.int .i64 x.id, .int .i64 x.spec.nodes, .int .i64 x.spec.cores, .int .i64 x.spec.gpus, .string x.spec.tag, .bool x.spec.whole, .int .i64 x.spec.long, .int .i64 x.spec.prio, .slice A3 m3 c3, .int .i64 1, .int .i64 x.came, .int .i64 x.frm, .int .i64 x.to] 30)).setCell ⟨w.heap.size + 1, 1, none⟩ (.int .i64 (y + 1)))) := Lib.hid (HB2.out.setCell (p := ⟨_, _, none⟩) (Nat.le_succ _) _)
        have HNQ : Hid (QAsk ((wr.alloc (.cells #[.int .i64 x.id, .int .i64 x.spec.nodes, .int .i64 x.spec.cores, .int .i64 x.spec.gpus, .string x.spec.tag, .bool x.spec.whole, .int .i64 x.spec.long, .int .i64 x.spec.prio, .slice A3 m3 c3, .int .i64 1, .int .i64 x.came, .int .i64 x.frm, .int .i64 x.to] 30)).setCell ⟨w.heap.size + 1, 1, none⟩ (.int .i64 (y + 1))) (some ⟨b, off, none⟩) n c l) := Lib.hid (Q0.out.upon HNB.out)
        rw [hy] at z0 hcc
        clear hs hy hle HLT2 hW1 q9 Q2
        go_wp2
        go_roundw
        case rel => exact ⟨k + 1, by omega, by go_num, HNQ.out, HNB.out, HNR.out, HN.out⟩
        case measure => simp [intOf]; omega
      · have HXS : Hid (x.state = 2) := Lib.hid hs
        rw [hs] at e9 BC BR2 HB2
        have hcc := hle 2
        obtain ⟨y, hy⟩ : ∃ y, cntT l k 2 = y := ⟨_, rfl⟩
        have HY := Lib.hid hy
        have z0 := BC.out.c2
        have z1 := BC.out.frozen 2
        have HN : Hid (BoxC ((wr.alloc (.cells #[.int .i64 x.id, .int .i64 x.spec.nodes, .int .i64 x.spec.cores, .int .i64 x.spec.gpus, .string x.spec.tag, .bool x.spec.whole, .int .i64 x.spec.long, .int .i64 x.spec.prio, .slice A3 m3 c3, .int .i64 2, .int .i64 x.came, .int .i64 x.frm, .int .i64 x.to] 30)).setCell ⟨w.heap.size + 1, 2, none⟩ (.int .i64 (y + 1))) (w.heap.size + 1) (cntT l (k + 1))) := Lib.hid (BC.out.set2 _ (by rw [HSTEP.out, if_pos HXS.out, HY.out]) (fun s hs => by rw [HSTEP.out, if_neg (by rw [HXS.out]; exact fun e => hs e.symm)]))
        have HNR : Hid (BoxC ((wr.alloc (.cells #[.int .i64 x.id, .int .i64 x.spec.nodes, .int .i64 x.spec.cores, .int .i64 x.spec.gpus, .string x.spec.tag, .bool x.spec.whole, .int .i64 x.spec.long, .int .i64 x.spec.prio, .slice A3 m3 c3, .int .i64 2, .int .i64 x.came, .int .i64 x.frm, .int .i64 x.to] 30)).setCell ⟨w.heap.size + 1, 2, none⟩ (.int .i64 (y + 1))) w.heap.size (fun _ => 0)) := Lib.hid (BR2.out.other (by omega))
        have HNB : Hid (Below w.heap.size w ((wr.alloc (.cells #[.int .i64 x.id, .int .i64 x.spec.nodes, .int .i64 x.spec.cores, .int .i64 x.spec.gpus, .string x.spec.tag, .bool x.spec.whole, .int .i64 x.spec.long, .int .i64 x.spec.prio, .slice A3 m3 c3, .int .i64 2, .int .i64 x.came, .int .i64 x.frm, .int .i64 x.to] 30)).setCell ⟨w.heap.size + 1, 2, none⟩ (.int .i64 (y + 1)))) := Lib.hid (HB2.out.setCell (p := ⟨_, _, none⟩) (Nat.le_succ _) _)
        have HNQ : Hid (QAsk ((wr.alloc (.cells #[.int .i64 x.id, .int .i64 x.spec.nodes, .int .i64 x.spec.cores, .int .i64 x.spec.gpus, .string x.spec.tag, .bool x.spec.whole, .int .i64 x.spec.long, .int .i64 x.spec.prio, .slice A3 m3 c3, .int .i64 2, .int .i64 x.came, .int .i64 x.frm, .int .i64 x.to] 30)).setCell ⟨w.heap.size + 1, 2, none⟩ (.int .i64 (y + 1))) (some ⟨b, off, none⟩) n c l) := Lib.hid (Q0.out.upon HNB.out)
        rw [hy] at z0 hcc
        clear hs hy hle HLT2 hW1 q9 Q2
        go_wp2
        go_roundw
        case rel => exact ⟨k + 1, by omega, by go_num, HNQ.out, HNB.out, HNR.out, HN.out⟩
        case measure => simp [intOf]; omega
      · have HXS : Hid (x.state = 3) := Lib.hid hs
        rw [hs] at e9 BC BR2 HB2
        have hcc := hle 3
        obtain ⟨y, hy⟩ : ∃ y, cntT l k 3 = y := ⟨_, rfl⟩
        have HY := Lib.hid hy
        have z0 := BC.out.c3
        have z1 := BC.out.frozen 3
        have HN : Hid (BoxC ((wr.alloc (.cells #[.int .i64 x.id, .int .i64 x.spec.nodes, .int .i64 x.spec.cores, .int .i64 x.spec.gpus, .string x.spec.tag, .bool x.spec.whole, .int .i64 x.spec.long, .int .i64 x.spec.prio, .slice A3 m3 c3, .int .i64 3, .int .i64 x.came, .int .i64 x.frm, .int .i64 x.to] 30)).setCell ⟨w.heap.size + 1, 3, none⟩ (.int .i64 (y + 1))) (w.heap.size + 1) (cntT l (k + 1))) := Lib.hid (BC.out.set3 _ (by rw [HSTEP.out, if_pos HXS.out, HY.out]) (fun s hs => by rw [HSTEP.out, if_neg (by rw [HXS.out]; exact fun e => hs e.symm)]))
        have HNR : Hid (BoxC ((wr.alloc (.cells #[.int .i64 x.id, .int .i64 x.spec.nodes, .int .i64 x.spec.cores, .int .i64 x.spec.gpus, .string x.spec.tag, .bool x.spec.whole, .int .i64 x.spec.long, .int .i64 x.spec.prio, .slice A3 m3 c3, .int .i64 3, .int .i64 x.came, .int .i64 x.frm, .int .i64 x.to] 30)).setCell ⟨w.heap.size + 1, 3, none⟩ (.int .i64 (y + 1))) w.heap.size (fun _ => 0)) := Lib.hid (BR2.out.other (by omega))
        have HNB : Hid (Below w.heap.size w ((wr.alloc (.cells #[.int .i64 x.id, .int .i64 x.spec.nodes, .int .i64 x.spec.cores, .int .i64 x.spec.gpus, .string x.spec.tag, .bool x.spec.whole, .int .i64 x.spec.long, .int .i64 x.spec.prio, .slice A3 m3 c3, .int .i64 3, .int .i64 x.came, .int .i64 x.frm, .int .i64 x.to] 30)).setCell ⟨w.heap.size + 1, 3, none⟩ (.int .i64 (y + 1)))) := Lib.hid (HB2.out.setCell (p := ⟨_, _, none⟩) (Nat.le_succ _) _)
        have HNQ : Hid (QAsk ((wr.alloc (.cells #[.int .i64 x.id, .int .i64 x.spec.nodes, .int .i64 x.spec.cores, .int .i64 x.spec.gpus, .string x.spec.tag, .bool x.spec.whole, .int .i64 x.spec.long, .int .i64 x.spec.prio, .slice A3 m3 c3, .int .i64 3, .int .i64 x.came, .int .i64 x.frm, .int .i64 x.to] 30)).setCell ⟨w.heap.size + 1, 3, none⟩ (.int .i64 (y + 1))) (some ⟨b, off, none⟩) n c l) := Lib.hid (Q0.out.upon HNB.out)
        rw [hy] at z0 hcc
        clear hs hy hle HLT2 hW1 q9 Q2
        go_wp2
        go_roundw
        case rel => exact ⟨k + 1, by omega, by go_num, HNQ.out, HNB.out, HNR.out, HN.out⟩
        case measure => simp [intOf]; omega
      · have HXS : Hid (x.state = 4) := Lib.hid hs
        rw [hs] at e9 BC BR2 HB2
        have hcc := hle 4
        obtain ⟨y, hy⟩ : ∃ y, cntT l k 4 = y := ⟨_, rfl⟩
        have HY := Lib.hid hy
        have z0 := BC.out.c4
        have z1 := BC.out.frozen 4
        have HN : Hid (BoxC ((wr.alloc (.cells #[.int .i64 x.id, .int .i64 x.spec.nodes, .int .i64 x.spec.cores, .int .i64 x.spec.gpus, .string x.spec.tag, .bool x.spec.whole, .int .i64 x.spec.long, .int .i64 x.spec.prio, .slice A3 m3 c3, .int .i64 4, .int .i64 x.came, .int .i64 x.frm, .int .i64 x.to] 30)).setCell ⟨w.heap.size + 1, 4, none⟩ (.int .i64 (y + 1))) (w.heap.size + 1) (cntT l (k + 1))) := Lib.hid (BC.out.set4 _ (by rw [HSTEP.out, if_pos HXS.out, HY.out]) (fun s hs => by rw [HSTEP.out, if_neg (by rw [HXS.out]; exact fun e => hs e.symm)]))
        have HNR : Hid (BoxC ((wr.alloc (.cells #[.int .i64 x.id, .int .i64 x.spec.nodes, .int .i64 x.spec.cores, .int .i64 x.spec.gpus, .string x.spec.tag, .bool x.spec.whole, .int .i64 x.spec.long, .int .i64 x.spec.prio, .slice A3 m3 c3, .int .i64 4, .int .i64 x.came, .int .i64 x.frm, .int .i64 x.to] 30)).setCell ⟨w.heap.size + 1, 4, none⟩ (.int .i64 (y + 1))) w.heap.size (fun _ => 0)) := Lib.hid (BR2.out.other (by omega))
        have HNB : Hid (Below w.heap.size w ((wr.alloc (.cells #[.int .i64 x.id, .int .i64 x.spec.nodes, .int .i64 x.spec.cores, .int .i64 x.spec.gpus, .string x.spec.tag, .bool x.spec.whole, .int .i64 x.spec.long, .int .i64 x.spec.prio, .slice A3 m3 c3, .int .i64 4, .int .i64 x.came, .int .i64 x.frm, .int .i64 x.to] 30)).setCell ⟨w.heap.size + 1, 4, none⟩ (.int .i64 (y + 1)))) := Lib.hid (HB2.out.setCell (p := ⟨_, _, none⟩) (Nat.le_succ _) _)
        have HNQ : Hid (QAsk ((wr.alloc (.cells #[.int .i64 x.id, .int .i64 x.spec.nodes, .int .i64 x.spec.cores, .int .i64 x.spec.gpus, .string x.spec.tag, .bool x.spec.whole, .int .i64 x.spec.long, .int .i64 x.spec.prio, .slice A3 m3 c3, .int .i64 4, .int .i64 x.came, .int .i64 x.frm, .int .i64 x.to] 30)).setCell ⟨w.heap.size + 1, 4, none⟩ (.int .i64 (y + 1))) (some ⟨b, off, none⟩) n c l) := Lib.hid (Q0.out.upon HNB.out)
        rw [hy] at z0 hcc
        clear hs hy hle HLT2 hW1 q9 Q2
        go_wp2
        go_roundw
        case rel => exact ⟨k + 1, by omega, by go_num, HNQ.out, HNB.out, HNR.out, HN.out⟩
        case measure => simp [intOf]; omega
      · have HXS : Hid (x.state = 5) := Lib.hid hs
        rw [hs] at e9 BC BR2 HB2
        have hcc := hle 5
        obtain ⟨y, hy⟩ : ∃ y, cntT l k 5 = y := ⟨_, rfl⟩
        have HY := Lib.hid hy
        have z0 := BC.out.c5
        have z1 := BC.out.frozen 5
        have HN : Hid (BoxC ((wr.alloc (.cells #[.int .i64 x.id, .int .i64 x.spec.nodes, .int .i64 x.spec.cores, .int .i64 x.spec.gpus, .string x.spec.tag, .bool x.spec.whole, .int .i64 x.spec.long, .int .i64 x.spec.prio, .slice A3 m3 c3, .int .i64 5, .int .i64 x.came, .int .i64 x.frm, .int .i64 x.to] 30)).setCell ⟨w.heap.size + 1, 5, none⟩ (.int .i64 (y + 1))) (w.heap.size + 1) (cntT l (k + 1))) := Lib.hid (BC.out.set5 _ (by rw [HSTEP.out, if_pos HXS.out, HY.out]) (fun s hs => by rw [HSTEP.out, if_neg (by rw [HXS.out]; exact fun e => hs e.symm)]))
        have HNR : Hid (BoxC ((wr.alloc (.cells #[.int .i64 x.id, .int .i64 x.spec.nodes, .int .i64 x.spec.cores, .int .i64 x.spec.gpus, .string x.spec.tag, .bool x.spec.whole, .int .i64 x.spec.long, .int .i64 x.spec.prio, .slice A3 m3 c3, .int .i64 5, .int .i64 x.came, .int .i64 x.frm, .int .i64 x.to] 30)).setCell ⟨w.heap.size + 1, 5, none⟩ (.int .i64 (y + 1))) w.heap.size (fun _ => 0)) := Lib.hid (BR2.out.other (by omega))
        have HNB : Hid (Below w.heap.size w ((wr.alloc (.cells #[.int .i64 x.id, .int .i64 x.spec.nodes, .int .i64 x.spec.cores, .int .i64 x.spec.gpus, .string x.spec.tag, .bool x.spec.whole, .int .i64 x.spec.long, .int .i64 x.spec.prio, .slice A3 m3 c3, .int .i64 5, .int .i64 x.came, .int .i64 x.frm, .int .i64 x.to] 30)).setCell ⟨w.heap.size + 1, 5, none⟩ (.int .i64 (y + 1)))) := Lib.hid (HB2.out.setCell (p := ⟨_, _, none⟩) (Nat.le_succ _) _)
        have HNQ : Hid (QAsk ((wr.alloc (.cells #[.int .i64 x.id, .int .i64 x.spec.nodes, .int .i64 x.spec.cores, .int .i64 x.spec.gpus, .string x.spec.tag, .bool x.spec.whole, .int .i64 x.spec.long, .int .i64 x.spec.prio, .slice A3 m3 c3, .int .i64 5, .int .i64 x.came, .int .i64 x.frm, .int .i64 x.to] 30)).setCell ⟨w.heap.size + 1, 5, none⟩ (.int .i64 (y + 1))) (some ⟨b, off, none⟩) n c l) := Lib.hid (Q0.out.upon HNB.out)
        rw [hy] at z0 hcc
        clear hs hy hle HLT2 hW1 q9 Q2
        go_wp2
        go_roundw
        case rel => exact ⟨k + 1, by omega, by go_num, HNQ.out, HNB.out, HNR.out, HN.out⟩
        case measure => simp [intOf]; omega
      · have HXS : Hid (x.state = 6) := Lib.hid hs
        rw [hs] at e9 BC BR2 HB2
        have hcc := hle 6
        obtain ⟨y, hy⟩ : ∃ y, cntT l k 6 = y := ⟨_, rfl⟩
        have HY := Lib.hid hy
        have z0 := BC.out.c6
        have z1 := BC.out.frozen 6
        have HN : Hid (BoxC ((wr.alloc (.cells #[.int .i64 x.id, .int .i64 x.spec.nodes, .int .i64 x.spec.cores, .int .i64 x.spec.gpus, .string x.spec.tag, .bool x.spec.whole, .int .i64 x.spec.long, .int .i64 x.spec.prio, .slice A3 m3 c3, .int .i64 6, .int .i64 x.came, .int .i64 x.frm, .int .i64 x.to] 30)).setCell ⟨w.heap.size + 1, 6, none⟩ (.int .i64 (y + 1))) (w.heap.size + 1) (cntT l (k + 1))) := Lib.hid (BC.out.set6 _ (by rw [HSTEP.out, if_pos HXS.out, HY.out]) (fun s hs => by rw [HSTEP.out, if_neg (by rw [HXS.out]; exact fun e => hs e.symm)]))
        have HNR : Hid (BoxC ((wr.alloc (.cells #[.int .i64 x.id, .int .i64 x.spec.nodes, .int .i64 x.spec.cores, .int .i64 x.spec.gpus, .string x.spec.tag, .bool x.spec.whole, .int .i64 x.spec.long, .int .i64 x.spec.prio, .slice A3 m3 c3, .int .i64 6, .int .i64 x.came, .int .i64 x.frm, .int .i64 x.to] 30)).setCell ⟨w.heap.size + 1, 6, none⟩ (.int .i64 (y + 1))) w.heap.size (fun _ => 0)) := Lib.hid (BR2.out.other (by omega))
        have HNB : Hid (Below w.heap.size w ((wr.alloc (.cells #[.int .i64 x.id, .int .i64 x.spec.nodes, .int .i64 x.spec.cores, .int .i64 x.spec.gpus, .string x.spec.tag, .bool x.spec.whole, .int .i64 x.spec.long, .int .i64 x.spec.prio, .slice A3 m3 c3, .int .i64 6, .int .i64 x.came, .int .i64 x.frm, .int .i64 x.to] 30)).setCell ⟨w.heap.size + 1, 6, none⟩ (.int .i64 (y + 1)))) := Lib.hid (HB2.out.setCell (p := ⟨_, _, none⟩) (Nat.le_succ _) _)
        have HNQ : Hid (QAsk ((wr.alloc (.cells #[.int .i64 x.id, .int .i64 x.spec.nodes, .int .i64 x.spec.cores, .int .i64 x.spec.gpus, .string x.spec.tag, .bool x.spec.whole, .int .i64 x.spec.long, .int .i64 x.spec.prio, .slice A3 m3 c3, .int .i64 6, .int .i64 x.came, .int .i64 x.frm, .int .i64 x.to] 30)).setCell ⟨w.heap.size + 1, 6, none⟩ (.int .i64 (y + 1))) (some ⟨b, off, none⟩) n c l) := Lib.hid (Q0.out.upon HNB.out)
        rw [hy] at z0 hcc
        clear hs hy hle HLT2 hW1 q9 Q2
        go_wp2
        go_roundw
        case rel => exact ⟨k + 1, by omega, by go_num, HNQ.out, HNB.out, HNR.out, HN.out⟩
        case measure => simp [intOf]; omega
    · have HE : Hid (cntT l k = countsQ l) := Lib.hid (by
        funext s
        rw [show k = l.length by rw [HL.out]; omega]
        exact cntT_all HR.out s)
      have BR := BR1
      have BC : Hid (BoxC wr (w.heap.size + 1) (countsQ l)) := Lib.hid (by rw [← HE.out]; exact BC1.out)
      clear BR1 BC1
      have q0 := BC.out.c0
      have q1 := BC.out.c1
      have q2 := BC.out.c2
      have q3 := BC.out.c3
      have q4 := BC.out.c4
      have q5 := BC.out.c5
      have q6 := BC.out.c6
      have p0 := BR.out.c0
      have v0 := BR.out.frozen 0
      have p1 := BR.out.c1
      have v1 := BR.out.frozen 1
      have p2 := BR.out.c2
      have v2 := BR.out.frozen 2
      have p3 := BR.out.c3
      have v3 := BR.out.frozen 3
      have p4 := BR.out.c4
      have v4 := BR.out.frozen 4
      have p5 := BR.out.c5
      have v5 := BR.out.frozen 5
      have p6 := BR.out.c6
      have v6 := BR.out.frozen 6
      go_wp2
      have b1 := BR.out.store (countsQ l)
      have HBF := below_setRow (g := w.heap.size) (Nat.le_refl _) [.int .i64 (countsQ l 0), .int .i64 (countsQ l 1), .int .i64 (countsQ l 2), .int .i64 (countsQ l 3), .int .i64 (countsQ l 4), .int .i64 (countsQ l 5), .int .i64 (countsQ l 6)] 0 _ HB1.out
      have r0 := b1.c0
      have r1 := b1.c1
      have r2 := b1.c2
      have r3 := b1.c3
      have r4 := b1.c4
      have r5 := b1.c5
      have r6 := b1.c6
      simp only [World.setCells] at r0 r1 r2 r3 r4 r5 r6
      refine bodyPost_ret (v := .agg #[.int .i64 (countsQ l 0), .int .i64 (countsQ l 1), .int .i64 (countsQ l 2), .int .i64 (countsQ l 3), .int .i64 (countsQ l 4), .int .i64 (countsQ l 5), .int .i64 (countsQ l 6)]) (by simp [results, Try.results15, go_sem, r0, r1, r2, r3, r4, r5, r6]) rfl ⟨rfl, HBF⟩
theorem countsQP_any {A : Option Addr} {n c : Nat} {l : Qu} {w : World} (hl : QAsk w A n c l) : Calls Try.prog 15 #[.slice A n c] w fun e w' => e = .returned (.agg #[.int .i64 (countsQ l 0), .int .i64 (countsQ l 1), .int .i64 (countsQ l 2), .int .i64 (countsQ l 3), .int .i64 (countsQ l 4), .int .i64 (countsQ l 5), .int .i64 (countsQ l 6)]) ∧ Below w.heap.size w w' := by
  cases hr : rightQ l with
  | true => exact countsQP_yes hl (of_decide_eq_true hr)
  | false =>
    have h : ∀ k, countsQ l k = 0 := fun k => if_neg (of_decide_eq_false hr)
    rw [h, h, h, h, h, h, h]
    exact countsQP_no hl hr

end Go.Proofs.Ytimgdlddfnglaaa

namespace Go.Proofs.Ytimgdlddfnglaaa

abbrev JF := Nat → Jb
/-- two places exchanged -/
def swpF (f : JF) (i k : Nat) : JF := fun q => if q = i then f k else if q = k then f i else f q
/-- n places from a on exchanged with those from b on -/
def swpRF (f : JF) (a b n : Nat) : JF := fun q => if a ≤ q ∧ q < a + n then f (q - a + b) else if b ≤ q ∧ q < b + n then f (q - b + a) else f q
/-- what stands from m on comes ahead of what stands from a on -/
def rotF (f : JF) (a m b : Nat) : JF := fun q => if a ≤ q ∧ q < a + (b - m) then f (q + (m - a)) else if a + (b - m) ≤ q ∧ q < b then f (q - (b - m)) else f q
def SrtB (f : JF) (a b : Nat) : Prop := ∀ i k, a ≤ i → i < k → k < b → Before (f i) (f k)
def CrossB (f : JF) (a m b : Nat) : Prop := ∀ i k, a ≤ i → i < m → m ≤ k → k < b → (f i).id < (f k).id
/-- the one has the places' members of the other one from a up to b, and all else as it was -/
structure SameIn (f f' : JF) (a b : Nat) : Prop where
  to : ∀ q, a ≤ q → q < b → ∃ k, a ≤ k ∧ k < b ∧ f' q = f k
  of : ∀ q, a ≤ q → q < b → ∃ k, a ≤ k ∧ k < b ∧ f q = f' k
  out : ∀ q, q < a ∨ b ≤ q → f' q = f q
/-- the first is more urgent -/
def UrgB (x y : Jb) : Prop := y.spec.prio < x.spec.prio
instance (x y : Jb) : Decidable (UrgB x y) := by unfold UrgB; infer_instance

section
variable {f f' f2 : JF} {a b m i k n q s e : Nat} {x y : Jb}
theorem SameIn.refl (f : JF) (a b : Nat) : SameIn f f a b := ⟨fun q h1 h2 => ⟨q, h1, h2, rfl⟩, fun q h1 h2 => ⟨q, h1, h2, rfl⟩, fun _ _ => rfl⟩
theorem SameIn.trans (h : SameIn f f' a b) (h2 : SameIn f' f2 a b) : SameIn f f2 a b := by
  refine ⟨fun q h3 h4 => ?_, fun q h3 h4 => ?_, fun q h3 => (h2.out q h3).trans (h.out q h3)⟩
  · obtain ⟨k, k1, k2, e1⟩ := h2.to q h3 h4
    obtain ⟨k', k3, k4, e2⟩ := h.to k k1 k2
    exact ⟨k', k3, k4, e1.trans e2⟩
  · obtain ⟨k, k1, k2, e1⟩ := h.of q h3 h4
    obtain ⟨k', k3, k4, e2⟩ := h2.of k k1 k2
    exact ⟨k', k3, k4, e1.trans e2⟩
theorem SameIn.wide {a' b' : Nat} (h : SameIn f f' a b) (ha : a' ≤ a) (hb : b ≤ b') : SameIn f f' a' b' := by
  refine ⟨fun q h3 h4 => ?_, fun q h3 h4 => ?_, fun q h3 => h.out q (by omega)⟩
  · by_cases hq : a ≤ q ∧ q < b
    · obtain ⟨k, k1, k2, e1⟩ := h.to q hq.1 hq.2
      exact ⟨k, by omega, by omega, e1⟩
    · exact ⟨q, h3, h4, h.out q (by omega)⟩
  · by_cases hq : a ≤ q ∧ q < b
    · obtain ⟨k, k1, k2, e1⟩ := h.of q hq.1 hq.2
      exact ⟨k, by omega, by omega, e1⟩
    · exact ⟨q, h3, h4, (h.out q (by omega)).symm⟩
theorem swpF_same (hi : a ≤ i ∧ i < b) (hk : a ≤ k ∧ k < b) : SameIn f (swpF f i k) a b := by
  unfold swpF
  refine ⟨fun q h3 h4 => ?_, fun q h3 h4 => ?_, fun q h3 => ?_⟩
  · by_cases h1 : q = i
    · exact ⟨k, hk.1, hk.2, by simp [h1]⟩
    · by_cases h2 : q = k
      · exact ⟨i, hi.1, hi.2, by simp [h2]; intro e; rw [e]⟩
      · exact ⟨q, h3, h4, by simp [h1, h2]⟩
  · by_cases h1 : q = i
    · by_cases h2 : k = i
      · exact ⟨i, hi.1, hi.2, by simp [h1, h2]⟩
      · exact ⟨k, hk.1, hk.2, by simp [h1, h2]⟩
    · by_cases h2 : q = k
      · exact ⟨i, hi.1, hi.2, by simp [h2]⟩
      · exact ⟨q, h3, h4, by simp [h1, h2]⟩
  · rw [if_neg (by omega), if_neg (by omega)]
theorem swpRF_same (ha : a ≤ i) (hab : i + n ≤ k) (hb : k + n ≤ b) : SameIn f (swpRF f i k n) a b := by
  unfold swpRF
  refine ⟨fun q h3 h4 => ?_, fun q h3 h4 => ?_, fun q h3 => ?_⟩
  · by_cases h1 : i ≤ q ∧ q < i + n
    · exact ⟨q - i + k, by omega, by omega, by simp [h1]⟩
    · by_cases h2 : k ≤ q ∧ q < k + n
      · exact ⟨q - k + i, by omega, by omega, by simp [h1, h2]⟩
      · exact ⟨q, h3, h4, by simp [h1, h2]⟩
  · by_cases h1 : i ≤ q ∧ q < i + n
    · refine ⟨q - i + k, by omega, by omega, ?_⟩
      rw [if_neg (by omega), if_pos (by omega)]
      congr 1 <;> omega
    · by_cases h2 : k ≤ q ∧ q < k + n
      · refine ⟨q - k + i, by omega, by omega, ?_⟩
        rw [if_pos (by omega)]
        congr 1 <;> omega
      · exact ⟨q, h3, h4, by simp [h1, h2]⟩
  · rw [if_neg (by omega), if_neg (by omega)]
theorem swpRF_zero : swpRF f a b 0 = f := by
  funext q; unfold swpRF
  rw [if_neg (by omega), if_neg (by omega)]
/-- one exchange more -/
theorem swpRF_succ (h : a + n < b) : swpF (swpRF f a b n) (a + n) (b + n) = swpRF f a b (n + 1) := by
  funext q; unfold swpF swpRF
  by_cases h1 : q = a + n
  · subst h1
    rw [if_pos rfl, if_neg (by omega), if_neg (by omega), if_pos (by omega)]
    congr 1 <;> omega
  · rw [if_neg h1]
    by_cases h2 : q = b + n
    · subst h2
      rw [if_pos rfl, if_neg (by omega), if_neg (by omega), if_neg (by omega), if_pos (by omega)]
      congr 1 <;> omega
    · rw [if_neg h2]
      by_cases h3 : a ≤ q ∧ q < a + n
      · rw [if_pos h3, if_pos (by omega)]
      · by_cases h4 : b ≤ q ∧ q < b + n
        · rw [if_neg h3, if_pos h4, if_neg (by omega), if_pos (by omega)]
        · rw [if_neg h3, if_neg h4, if_neg (by omega), if_neg (by omega)]
/-- a rotation by exchanges of ranges: the left part is the longer one -/
theorem rot_left (hi : i ≤ m) (hk : k < i) (hk0 : 0 < k) : rotF (swpRF f (m - i) m k) (m - (i - k)) m (m + k) = rotF f (m - i) m (m + k) := by
  funext q; unfold rotF swpRF
  by_cases h1 : m - i ≤ q ∧ q < m - i + k
  · rw [if_neg (by omega), if_neg (by omega), if_pos (by omega), if_pos (by omega)]
    congr 1 <;> omega
  · by_cases h2 : m - i + k ≤ q ∧ q < m - i + k + k
    · rw [if_pos (by omega), if_neg (by omega), if_pos (by omega), if_neg (by omega), if_pos (by omega)]
      congr 1 <;> omega
    · by_cases h3 : m - i + k + k ≤ q ∧ q < m + k
      · rw [if_neg (by omega), if_pos (by omega), if_neg (by omega), if_neg (by omega), if_neg (by omega), if_pos (by omega)]
      · rw [if_neg (by omega), if_neg (by omega), if_neg (by omega), if_neg (by omega), if_neg (by omega), if_neg (by omega)]
theorem rot_right (hi : i ≤ m) (hk : i < k) (hi0 : 0 < i) : rotF (swpRF f (m - i) (m + k - i) i) (m - i) m (m + (k - i)) = rotF f (m - i) m (m + k) := by
  funext q; unfold rotF swpRF
  by_cases h1 : m - i ≤ q ∧ q < m - i + (k - i)
  · rw [if_pos (by omega)]
    by_cases h2 : q + (m - (m - i)) < m + k - i
    · rw [if_neg (by omega), if_neg (by omega), if_pos (by omega)]
    · omega
  · by_cases h2 : m - i + (k - i) ≤ q ∧ q < m + (k - i)
    · rw [if_neg (by omega), if_pos (by omega), if_pos (by omega), if_pos (by omega)]
      congr 1 <;> omega
    · by_cases h3 : m + (k - i) ≤ q ∧ q < m + k
      · rw [if_neg (by omega), if_neg (by omega), if_neg (by omega), if_pos (by omega), if_neg (by omega), if_pos (by omega)]
        congr 1 <;> omega
      · rw [if_neg (by omega), if_neg (by omega), if_neg (by omega), if_neg (by omega), if_neg (by omega), if_neg (by omega)]
theorem rot_even (hi : i ≤ m) : swpRF f (m - i) m i = rotF f (m - i) m (m + i) := by
  funext q; unfold rotF swpRF
  by_cases h1 : m - i ≤ q ∧ q < m
  · rw [if_pos (by omega), if_pos (by omega)]
    congr 1 <;> omega
  · by_cases h2 : m ≤ q ∧ q < m + i
    · rw [if_neg (by omega), if_pos (by omega), if_neg (by omega), if_pos (by omega)]
      congr 1 <;> omega
    · rw [if_neg (by omega), if_neg (by omega), if_neg (by omega), if_neg (by omega)]
theorem rotF_none (h : a = m ∨ m = b) (h1 : a ≤ m) (h2 : m ≤ b) : rotF f a m b = f := by
  funext q; unfold rotF
  by_cases h3 : a ≤ q ∧ q < a + (b - m)
  · rw [if_pos h3]; congr 1 <;> omega
  · rw [if_neg h3]
    by_cases h4 : a + (b - m) ≤ q ∧ q < b
    · rw [if_pos h4]; congr 1 <;> omega
    · rw [if_neg h4]
theorem rotF_same (h1 : a ≤ m) (h2 : m ≤ b) : SameIn f (rotF f a m b) a b := by
  unfold rotF
  refine ⟨fun q h3 h4 => ?_, fun q h3 h4 => ?_, fun q h3 => ?_⟩
  · by_cases h5 : q < a + (b - m)
    · exact ⟨q + (m - a), by omega, by omega, by rw [if_pos ⟨h3, h5⟩]⟩
    · exact ⟨q - (b - m), by omega, by omega, by rw [if_neg (by omega), if_pos (by omega)]⟩
  · by_cases h5 : q < m
    · refine ⟨q + (b - m), by omega, by omega, ?_⟩
      rw [if_neg (by omega), if_pos (by omega)]
      congr 1 <;> omega
    · refine ⟨q - (m - a), by omega, by omega, ?_⟩
      rw [if_pos (by omega)]
      congr 1 <;> omega
  · rw [if_neg (by omega), if_neg (by omega)]

/-! ## urgency and the order -/
theorem urg_before (h : y.id < x.id) : UrgB x y ↔ Before x y := by unfold UrgB Before; omega
theorem urg_not (h : y.id < x.id) : ¬ UrgB x y ↔ Before y x := by unfold UrgB Before; omega
theorem SrtB.le (h : SrtB f a b) (h1 : a ≤ i) (h2 : i ≤ k) (h3 : k < b) (hx : Before x (f i)) : Before x (f k) := by
  rcases Nat.lt_or_ge i k with h4 | h4
  · exact hx.trans (h i k h1 h4 h3)
  · have : i = k := by omega
    rw [← this]; exact hx
theorem SrtB.ge (h : SrtB f a b) (h1 : a ≤ i) (h2 : i ≤ k) (h3 : k < b) (hx : Before (f k) x) : Before (f i) x := by
  rcases Nat.lt_or_ge i k with h4 | h4
  · exact (h i k h1 h4 h3).trans hx
  · have : i = k := by omega
    rw [this]; exact hx
theorem SrtB.congr (h : SrtB f a b) (he : ∀ q, a ≤ q → q < b → f' q = f q) : SrtB f' a b := fun i k h1 h2 h3 => by
  rw [he i h1 (by omega), he k (by omega) h3]; exact h i k h1 h2 h3
/-- two sorted halves, all of the one before all of the other one -/
theorem SrtB.join (h1 : SrtB f a m) (h2 : SrtB f m b) (h3 : ∀ i k, a ≤ i → i < m → m ≤ k → k < b → Before (f i) (f k)) : SrtB f a b := fun i k hi hik hk => by
  by_cases h4 : k < m
  · exact h1 i k hi hik h4
  · by_cases h5 : i < m
    · exact h3 i k hi h5 (by omega) hk
    · exact h2 i k (by omega) hik hk
/-- a job taken up ahead of those it stands before -/
theorem insert_left (hs : SrtB f (a + 1) b) (hi : a + 1 ≤ i) (hib : i ≤ b) (hlow : i = a + 1 ∨ Before (f (i - 1)) (f a)) (hhigh : i = b ∨ Before (f a) (f i))
    (he1 : ∀ q, a ≤ q → q < i - 1 → f' q = f (q + 1)) (he2 : f' (i - 1) = f a) (he3 : ∀ q, q < a ∨ i ≤ q → f' q = f q) : SrtB f' a b := by
  intro p q hp hpq hq
  have key1 : ∀ t, a + 1 ≤ t → t < i → Before (f t) (f a) := fun t h1 h2 => by
    rcases hlow with h3 | h3
    · omega
    · exact hs.ge h1 (by omega) (by omega) h3
  have key2 : ∀ t, i ≤ t → t < b → Before (f a) (f t) := fun t h1 h2 => by
    rcases hhigh with h3 | h3
    · omega
    · exact hs.le (by omega) h1 h2 h3
  rcases Nat.lt_trichotomy p (i - 1) with h1 | h1 | h1
  · rw [he1 p hp h1]
    rcases Nat.lt_trichotomy q (i - 1) with h2 | h2 | h2
    · rw [he1 q (by omega) h2]; exact hs _ _ (by omega) (by omega) (by omega)
    · rw [h2, he2]; exact key1 _ (by omega) (by omega)
    · rw [he3 q (.inr (by omega))]; exact hs _ _ (by omega) (by omega) (by omega)
  · rw [h1, he2, he3 q (.inr (by omega))]; exact key2 _ (by omega) hq
  · rw [he3 p (.inr (by omega)), he3 q (.inr (by omega))]; exact hs _ _ (by omega) hpq hq
theorem insert_right (hs : SrtB f a m) (hi : a ≤ i) (him : i ≤ m) (hlow : i = a ∨ Before (f (i - 1)) (f m)) (hhigh : i = m ∨ Before (f m) (f i))
    (he1 : ∀ q, i < q → q ≤ m → f' q = f (q - 1)) (he2 : f' i = f m) (he3 : ∀ q, q < i ∨ m < q → f' q = f q) : SrtB f' a (m + 1) := by
  intro p q hp hpq hq
  have key1 : ∀ t, a ≤ t → t < i → Before (f t) (f m) := fun t h1 h2 => by
    rcases hlow with h3 | h3
    · omega
    · exact hs.ge h1 (by omega) (by omega) h3
  have key2 : ∀ t, i ≤ t → t < m → Before (f m) (f t) := fun t h1 h2 => by
    rcases hhigh with h3 | h3
    · omega
    · exact hs.le (by omega) h1 h2 h3
  rcases Nat.lt_trichotomy p i with h1 | h1 | h1
  · rw [he3 p (.inl h1)]
    rcases Nat.lt_trichotomy q i with h2 | h2 | h2
    · rw [he3 q (.inl h2)]; exact hs _ _ hp hpq (by omega)
    · rw [h2, he2]; exact key1 _ hp h1
    · rw [he1 q h2 (by omega)]; exact hs _ _ hp (by omega) (by omega)
  · rw [h1, he2, he1 q (by omega) (by omega)]; exact key2 _ (by omega) (by omega)
  · rw [he1 p h1 (by omega), he1 q (by omega) (by omega)]; exact hs _ _ (by omega) (by omega) (by omega)
/-- where a merge is split: what comes ahead of the middle stands before what comes behind it -/
theorem split_before {mid : Nat} (h1 : SrtB f a m) (h2 : SrtB f m b) (has : a ≤ s) (hsm : s ≤ m) (hme : m ≤ e) (heb : e ≤ b) (hmid : e + s = mid + m)
    (hlow : s = a ∨ e = b ∨ Before (f (s - 1)) (f e)) (hhigh : s = m ∨ e = m ∨ Before (f (e - 1)) (f s)) :
    ∀ i k, a ≤ i → i < mid → mid ≤ k → k < b → Before (rotF f s m e i) (rotF f s m e k) := by
  intro i k hi him hk hkb
  have keyA : ∀ p q, a ≤ p → p < s → e ≤ q → q < b → Before (f p) (f q) := fun p q p1 p2 q1 q2 => by
    rcases hlow with h | h | h
    · omega
    · omega
    · exact h2.le hme q1 q2 (h1.ge p1 (by omega) (by omega) h)
  have keyB : ∀ p q, m ≤ p → p < e → s ≤ q → q < m → Before (f p) (f q) := fun p q p1 p2 q1 q2 => by
    rcases hhigh with h | h | h
    · omega
    · omega
    · exact h1.le has q1 q2 (h2.ge p1 (by omega) (by omega) h)
  unfold rotF
  by_cases h3 : i < s
  · rw [if_neg (by omega), if_neg (by omega)]
    by_cases h4 : k < e
    · rw [if_neg (by omega), if_pos (by omega)]; exact h1 _ _ hi (by omega) (by omega)
    · rw [if_neg (by omega), if_neg (by omega)]; exact keyA _ _ hi h3 (by omega) hkb
  · rw [if_pos (by omega)]
    by_cases h4 : k < e
    · rw [if_neg (by omega), if_pos (by omega)]; exact keyB _ _ (by omega) (by omega) (by omega) (by omega)
    · rw [if_neg (by omega), if_neg (by omega)]; exact h2 _ _ (by omega) (by omega) hkb
end

end Go.Proofs.Ytimgdlddfnglaaa

namespace Go.Proofs.Ytimgdlddfnglaaa

theorem swpF_comm (f : JF) (i k : Nat) : swpF f i k = swpF f k i := by
  funext q; unfold swpF
  by_cases h1 : q = i
  · by_cases h2 : q = k
    · rw [if_pos h1, if_pos h2, ← h1, ← h2]
    · rw [if_pos h1, if_neg h2, if_pos h1]
  · by_cases h2 : q = k
    · rw [if_neg h1, if_pos h2, if_pos h2]
    · rw [if_neg h1, if_neg h2, if_neg h2, if_neg h1]
/-- what is known of the row when a merge has been split -/
structure Split (f f1 : JF) (a s mid e b : Nat) : Prop where
  same : SameIn f f1 a b
  s1 : SrtB f1 a s
  s2 : SrtB f1 s mid
  s3 : SrtB f1 mid e
  s4 : SrtB f1 e b
  c1 : CrossB f1 a s mid
  c2 : CrossB f1 mid e b
  before : ∀ i k, a ≤ i → i < mid → mid ≤ k → k < b → Before (f1 i) (f1 k)
section
variable {f f1 f2 f3 : JF} {a b m s e mid : Nat}
theorem split_rot (h1 : SrtB f a m) (h2 : SrtB f m b) (hc : CrossB f a m b) (has : a ≤ s) (hsm : s ≤ m) (hme : m ≤ e) (heb : e ≤ b) (hmid : e + s = mid + m)
    (hlow : s = a ∨ e = b ∨ Before (f (s - 1)) (f e)) (hhigh : s = m ∨ e = m ∨ Before (f (e - 1)) (f s)) : Split f (rotF f s m e) a s mid e b := by
  have r1 : ∀ q, q < s → rotF f s m e q = f q := fun q hq => by unfold rotF; rw [if_neg (by omega), if_neg (by omega)]
  have r2 : ∀ q, s ≤ q → q < mid → rotF f s m e q = f (q + (m - s)) := fun q h3 h4 => by unfold rotF; rw [if_pos (by omega)]
  have r3 : ∀ q, mid ≤ q → q < e → rotF f s m e q = f (q - (e - m)) := fun q h3 h4 => by unfold rotF; rw [if_neg (by omega), if_pos (by omega)]
  have r4 : ∀ q, e ≤ q → rotF f s m e q = f q := fun q h3 => by unfold rotF; rw [if_neg (by omega), if_neg (by omega)]
  refine ⟨(rotF_same hsm hme).wide has heb, ?_, ?_, ?_, ?_, ?_, ?_, split_before h1 h2 has hsm hme heb hmid hlow hhigh⟩
  · intro i k p1 p2 p3
    rw [r1 i (by omega), r1 k p3]; exact h1 i k p1 p2 (by omega)
  · intro i k p1 p2 p3
    rw [r2 i p1 (by omega), r2 k (by omega) p3]; exact h2 _ _ (by omega) (by omega) (by omega)
  · intro i k p1 p2 p3
    rw [r3 i p1 (by omega), r3 k (by omega) p3]; exact h1 _ _ (by omega) (by omega) (by omega)
  · intro i k p1 p2 p3
    rw [r4 i p1, r4 k (by omega)]; exact h2 _ _ (by omega) p2 p3
  · intro i k p1 p2 p3 p4
    rw [r1 i p2, r2 k p3 p4]; exact hc _ _ p1 (by omega) (by omega) (by omega)
  · intro i k p1 p2 p3 p4
    rw [r3 i p1 p2, r4 k p3]; exact hc _ _ (by omega) (by omega) (by omega) p4
theorem Split.left (h : Split f f1 a s mid e b) (has : a ≤ s) (hsm : s ≤ mid) (hn : ¬ (a < s ∧ s < mid)) : SrtB f1 a mid := by
  by_cases h1 : a = s
  · rw [h1]; exact h.s2
  · have : s = mid := by omega
    rw [← this]; exact h.s1
theorem Split.right (h : Split f f1 a s mid e b) (hme : mid ≤ e) (heb : e ≤ b) (hn : ¬ (mid < e ∧ e < b)) : SrtB f1 mid b := by
  by_cases h1 : mid = e
  · rw [h1]; exact h.s4
  · have : e = b := by omega
    rw [← this]; exact h.s3
/-- both halves have been merged -/
theorem Split.done (h : Split f f1 a s mid e b) (ham : a ≤ mid) (hmb : mid ≤ b) (h2 : SameIn f1 f2 a mid) (s2 : SrtB f2 a mid) (h3 : SameIn f2 f3 mid b) (s3 : SrtB f3 mid b) : SameIn f f3 a b ∧ SrtB f3 a b := by
  refine ⟨h.same.trans ((h2.wide (Nat.le_refl _) hmb).trans (h3.wide ham (Nat.le_refl _))), SrtB.join (m := mid) (s2.congr fun q _ hq => h3.out q (.inl hq)) s3 fun i k p1 p2 p3 p4 => ?_⟩
  rw [h3.out i (.inl p2)]
  obtain ⟨i', i1, i2, e1⟩ := h2.to i p1 p2
  obtain ⟨k', k1, k2, e2⟩ := h3.to k p3 p4
  rw [e1, e2, h2.out k' (.inr k1)]
  exact h.before i' k' i1 i2 k1 k2
theorem CrossB.mono (h : SameIn f f2 a b) {a' b' : Nat} (ha : b ≤ a' ∨ b' ≤ a) (hc : CrossB f a' m b') : CrossB f2 a' m b' := fun i k p1 p2 p3 p4 => by
  rw [h.out i (by omega), h.out k (by omega)]; exact hc i k p1 p2 p3 p4
end

end Go.Proofs.Ytimgdlddfnglaaa

namespace Go.Proofs.Ytimgdlddfnglaaa

/-- what stands from lo up to hi stood there before -/
def MemI (ini f : JF) (lo hi : Nat) : Prop := ∀ q, lo ≤ q → q < hi → ∃ k, lo ≤ k ∧ k < hi ∧ f q = ini k
/-- each block of B places that begins ahead of u is sorted, and has what it had -/
def Blk (ini f : JF) (B n u : Nat) : Prop := ∀ lo, B ∣ lo → lo < u → SrtB f lo (min (lo + B) n) ∧ MemI ini f lo (min (lo + B) n)
section
variable {ini f f' fs : JF} {a n B hi u : Nat}
theorem dvd_step {x y : Nat} (hx : B ∣ x) (hy : B ∣ y) (h : x < y) : x + B ≤ y := by
  have h1 : B ∣ y - x := Nat.dvd_sub hy hx
  have := Nat.le_of_dvd (by omega) h1
  omega
theorem blk_zero : Blk ini f B n 0 := fun lo _ h => by omega
theorem blk_step (hd : B ∣ a) (h : Blk ini f B n a) (hhi : min (a + B) n = hi) (hs : SameIn f f' a hi) (hsrt : SrtB f' a hi) (hm : MemI ini f a hi) : Blk ini f' B n (a + B) := by
  intro lo hlo hlt
  rcases Nat.lt_trichotomy lo a with h1 | h1 | h1
  · have h2 := dvd_step hlo hd h1
    obtain ⟨h3, h4⟩ := h lo hlo h1
    have he : ∀ q, q < min (lo + B) n → f' q = f q := fun q hq => hs.out q (.inl (by omega))
    refine ⟨h3.congr fun q _ hq => he q hq, fun q q1 q2 => ?_⟩
    rw [he q q2]; exact h4 q q1 q2
  · subst h1
    rw [hhi]
    refine ⟨hsrt, fun q q1 q2 => ?_⟩
    obtain ⟨k, k1, k2, e⟩ := hs.to q q1 q2
    obtain ⟨k', k3, k4, e'⟩ := hm k k1 k2
    exact ⟨k', k3, k4, e.trans e'⟩
  · have := dvd_step hd hlo h1
    omega
theorem blk_all (h : Blk ini f B n u) (hu : n ≤ u) : Blk ini f B n n := fun lo h1 h2 => h lo h1 (by omega)
theorem memI_same (h : ∀ q, a ≤ q → f q = ini q) : MemI ini f a hi := fun q h1 h2 => ⟨q, h1, h2, h q h1⟩
theorem blk_done (h : Blk ini f B n n) (hn : n ≤ B) : SrtB f 0 n := by
  rcases Nat.eq_zero_or_pos n with h0 | h0
  · subst h0
    intro i k _ _ h3
    omega
  · have h1 := (h 0 (Nat.dvd_zero _) h0).1
    rwa [show min (0 + B) n = n by omega] at h1
/-- two blocks side by side: what a merge asks -/
theorem blk_two (hid : ∀ p q, p < q → q < n → (ini p).id < (ini q).id) (h : Blk ini fs B n n) (hd : B ∣ a) (ham : a + B < n) (hhi : min (a + 2 * B) n = hi) (he : ∀ q, a ≤ q → f q = fs q) :
    SrtB f a (a + B) ∧ SrtB f (a + B) hi ∧ CrossB f a (a + B) hi ∧ MemI ini f a hi := by
  obtain ⟨h1, h2⟩ := h a hd (by omega)
  obtain ⟨h3, h4⟩ := h (a + B) ((Nat.dvd_add_right hd).2 (Nat.dvd_refl _)) (by omega)
  rw [show min (a + B) n = a + B by omega] at h1 h2
  rw [show min (a + B + B) n = hi by omega] at h3 h4
  refine ⟨h1.congr fun q q1 _ => he q q1, h3.congr fun q q1 _ => he q (by omega), fun i k i1 i2 k1 k2 => ?_, fun q q1 q2 => ?_⟩
  · rw [he i i1, he k (by omega)]
    obtain ⟨i', p1, p2, e1⟩ := h2 i i1 i2
    obtain ⟨k', p3, p4, e2⟩ := h4 k k1 k2
    rw [e1, e2]
    exact hid i' k' (by omega) (by omega)
  · rw [he q q1]
    by_cases hq : q < a + B
    · obtain ⟨k, k1, k2, e⟩ := h2 q q1 hq
      exact ⟨k, k1, by omega, e⟩
    · obtain ⟨k, k1, k2, e⟩ := h4 q (by omega) q2
      exact ⟨k, by omega, k2, e⟩
/-- the last one stands alone -/
theorem blk_one (h : Blk ini fs B n n) (hd : B ∣ a) (han : a < n) (ham : n ≤ a + B) (he : ∀ q, a ≤ q → f q = fs q) : SrtB f a n ∧ MemI ini f a n := by
  obtain ⟨h1, h2⟩ := h a hd han
  rw [show min (a + B) n = n by omega] at h1 h2
  refine ⟨h1.congr fun q q1 _ => he q q1, fun q q1 q2 => ?_⟩
  rw [he q q1]; exact h2 q q1 q2
theorem dvd_two (h : 2 * B ∣ a) : B ∣ a := Nat.dvd_trans ⟨2, by rw [Nat.mul_comm]⟩ h
theorem dvd_next (h : B ∣ a) : B ∣ a + B := (Nat.dvd_add_right h).2 (Nat.dvd_refl _)
/-- a sorted row with the same members is the line itself -/
theorem srt_line {xs ys : Qu} (hl : xs.length = ys.length) (hs : SameIn (jAt ys) (jAt xs) 0 ys.length) (hsrt : SrtB (jAt xs) 0 ys.length) {zs : Qu} (hz : zs.Pairwise Before) (hm : ∀ x, x ∈ zs ↔ x ∈ ys) : xs = zs := by
  refine order_one ?_ hz fun x => ?_
  · rw [List.pairwise_iff_getElem]
    intro i k h1 h2 h3
    have := hsrt i k (Nat.zero_le _) h3 (by omega)
    rwa [jAt_lt h1, jAt_lt h2] at this
  · rw [hm]
    constructor
    · intro h
      obtain ⟨i, hi, e⟩ := mem_jAt h
      obtain ⟨k, _, k2, e2⟩ := hs.to i (Nat.zero_le _) (by omega)
      rw [← e, e2]; exact jAt_mem k2
    · intro h
      obtain ⟨i, hi, e⟩ := mem_jAt h
      obtain ⟨k, _, k2, e2⟩ := hs.of i (Nat.zero_le _) hi
      rw [← e, e2]; exact jAt_mem (by omega)
theorem rise_filter {l : Qu} (h : RightQ l) (p : Jb → Bool) : ∀ i k, i < k → k < (l.filter p).length → (jAt (l.filter p) i).id < (jAt (l.filter p) k).id := by
  have hp : (l.filter p).Pairwise fun a b => a.id < b.id := List.Pairwise.filter _ (by
    rw [List.pairwise_iff_getElem]
    intro i k hi hk hik
    have := h.rise hik hk
    rwa [jAt_lt hi, jAt_lt hk] at this)
  intro i k hik hk
  have := List.pairwise_iff_getElem.1 hp i k (by omega) hk hik
  rwa [← jAt_lt (l := l.filter p) (by omega), ← jAt_lt hk] at this
end

end Go.Proofs.Ytimgdlddfnglaaa
