/- The statement QueueOrder, as a walk over the contracts. Written by gen/gen_queuelaws.py. -/
import Derived.Test.YtimgdlddfnglaaaMg08
import Derived.Test.YtimgdlddfnglaaaZQueueGrowMath
import Derived.Test.YtimgdlddfnglaaaMg15
namespace Go.Proofs.Ytimgdlddfnglaaa
open Go.RowKit

set_option maxRecDepth 100000 in
set_option maxHeartbeats 60000000 in
theorem queueOrder_l0 (H : QueueOk) (A : Option Addr) (n c : Nat) (l : Qu) (w : World) (hl : QAsk w A n c l) (h0 : shortQ l = false) :
    Calls Try.prog 4 #[.slice A n c] w fun e w' => e = .returned (.bool true) ∧ Below w.heap.size w w' := by
  have HB := Lib.hid (Below.refl w.heap.size w)
  have QA := Lib.hid hl
  have E0 := Lib.hid h0
  clear hl h0
  go_enter Try.func4, Try.ntmps4
  go_wp2_with fail
  refine (awake12_any H _).mono ?_
  rintro e w1 ⟨rfl, hb⟩
  have HBq := Lib.hid (HB.out.trans (hb.mono HB.out.size))
  clear HB
  have HB := HBq
  clear HBq
  have QAq := Lib.hid (QA.out.next hb)
  clear QA
  have QA := QAq
  clear QAq
  clear hb
  go_wp2_with fail
  refine (refShortQ_b QA.out E0.out).mono ?_
  rintro e w2 ⟨rfl, hb⟩
  have HBq := Lib.hid (HB.out.trans (hb.mono HB.out.size))
  clear HB
  have HB := HBq
  clear HBq
  have QAq := Lib.hid (QA.out.next hb)
  clear QA
  have QA := QAq
  clear QAq
  clear hb
  go_wp2
  go_ret
  exact ⟨rfl, HB.out⟩

set_option maxRecDepth 100000 in
set_option maxHeartbeats 60000000 in
theorem queueOrder_l1 (H : QueueOk) (A : Option Addr) (n c : Nat) (l : Qu) (w : World) (hl : QAsk w A n c l) (h0 : shortQ l = true) (hr : rightQ l = false) :
    Calls Try.prog 4 #[.slice A n c] w fun e w' => e = .returned (.bool true) ∧ Below w.heap.size w w' := by
  have HB := Lib.hid (Below.refl w.heap.size w)
  have QA := Lib.hid hl
  have E0 := Lib.hid h0
  have HSQ := Lib.hid (of_decide_eq_true h0 : ShortQ l)
  have F0 := Lib.hid (HSQ.out.few)
  have HL := Lib.hid hl.reads.len
  have hn14 : n ≤ 14 := by rw [← hl.reads.len]; exact HSQ.out.1
  have RR := Lib.hid hr
  clear hl h0 hr
  go_enter Try.func4, Try.ntmps4
  go_wp2_with fail
  refine (awake12_any H _).mono ?_
  rintro e w1 ⟨rfl, hb⟩
  have HBq := Lib.hid (HB.out.trans (hb.mono HB.out.size))
  clear HB
  have HB := HBq
  clear HBq
  have QAq := Lib.hid (QA.out.next hb)
  clear QA
  have QA := QAq
  clear QAq
  clear hb
  go_wp2_with fail
  refine (refShortQ_b QA.out E0.out).mono ?_
  rintro e w2 ⟨rfl, hb⟩
  have HBq := Lib.hid (HB.out.trans (hb.mono HB.out.size))
  clear HB
  have HB := HBq
  clear HBq
  have QAq := Lib.hid (QA.out.next hb)
  clear QA
  have QA := QAq
  clear QAq
  clear hb
  go_wp2_with fail
  refine (h12_right H QA.out F0.out RR.out).mono ?_
  rintro e w3 ⟨rfl, hb⟩
  have HBq := Lib.hid (HB.out.trans (hb.mono HB.out.size))
  clear HB
  have HB := HBq
  clear HBq
  have QAq := Lib.hid (QA.out.next hb)
  clear QA
  have QA := QAq
  clear QAq
  clear hb
  go_wp2
  go_ret
  exact ⟨rfl, HB.out⟩

set_option maxRecDepth 100000 in
set_option maxHeartbeats 60000000 in
theorem queueOrder_yes (H : QueueOk) (A : Option Addr) (n c : Nat) (l : Qu) (w : World) (hl : QAsk w A n c l) (h0 : shortQ l = true) (hr : RightQ l) :
    Calls Try.prog 4 #[.slice A n c] w fun e w' => e = .returned (.bool true) ∧ Below w.heap.size w w' := by
  have HB := Lib.hid (Below.refl w.heap.size w)
  have QA := Lib.hid hl
  have E0 := Lib.hid h0
  have HSQ := Lib.hid (of_decide_eq_true h0 : ShortQ l)
  have F0 := Lib.hid (HSQ.out.few)
  have HL := Lib.hid hl.reads.len
  have hn14 : n ≤ 14 := by rw [← hl.reads.len]; exact HSQ.out.1
  have RR : Hid (rightQ l = true) := Lib.hid (decide_eq_true hr)
  have HR := Lib.hid hr
  have LR : Hid ((readyQ l).length ≤ 100) := Lib.hid (Nat.le_trans readyQ_len F0.out.1)
  have LL : Hid ((lostQ l).length ≤ 100) := Lib.hid (Nat.le_trans lostQ_len F0.out.1)
  have RO := Lib.hid (fun (i : Nat) (x : Int) (hi : i < (readyQ l).length) (hx : (readyQ l).getD i 0 = x) => ready_one hi hx)
  have LO := Lib.hid (fun (i : Nat) (x : Int) (hi : i < (lostQ l).length) (hx : (lostQ l).getD i 0 = x) => lost_one hi hx)
  have RB := Lib.hid (fun (i : Nat) (x y : Int) (hi : i < (readyQ l).length) (h0 : 0 < i) (hx : (readyQ l).getD i 0 = x) (hy : (readyQ l).getD (i - 1) 0 = y) => ready_before hi h0 hx hy)
  have AP := Lib.hid (fun (i k : Nat) (x y : Int) (hi : i < (readyQ l).length) (hx : (readyQ l).getD i 0 = x) (hk : k < (lostQ l).length) (hy : (lostQ l).getD k 0 = y) => ready_apart hi hx hk hy)
  have hlen := fun s => counts_le hr s
  have hsum := counts_sum hr
  obtain ⟨rl, e1⟩ : ∃ r, readyQ l = r := ⟨_, rfl⟩
  obtain ⟨ll, e2⟩ : ∃ r, lostQ l = r := ⟨_, rfl⟩
  obtain ⟨kc, e3⟩ : ∃ r, countsQ l = r := ⟨_, rfl⟩
  rw [e1] at LR RO RB AP
  rw [e2] at LL LO AP
  rw [e3] at hlen hsum
  rw [hl.reads.len] at hlen hsum
  have E1 := Lib.hid e1
  have E2 := Lib.hid e2
  have E3 := Lib.hid e3
  have HSM := Lib.hid hsum
  have HLE := Lib.hid hlen
  clear hl h0 hr e1 e2 e3 hlen hsum
  go_enter Try.func4, Try.ntmps4
  go_wp2_with fail
  refine (awake12_any H _).mono ?_
  rintro e w1 ⟨rfl, hb⟩
  have HBq := Lib.hid (HB.out.trans (hb.mono HB.out.size))
  clear HB
  have HB := HBq
  clear HBq
  have QAq := Lib.hid (QA.out.next hb)
  clear QA
  have QA := QAq
  clear QAq
  clear hb
  go_wp2_with fail
  refine (refShortQ_b QA.out E0.out).mono ?_
  rintro e w2 ⟨rfl, hb⟩
  have HBq := Lib.hid (HB.out.trans (hb.mono HB.out.size))
  clear HB
  have HB := HBq
  clear HBq
  have QAq := Lib.hid (QA.out.next hb)
  clear QA
  have QA := QAq
  clear QAq
  clear hb
  go_wp2_with fail
  refine (h12_right H QA.out F0.out RR.out).mono ?_
  rintro e w3 ⟨rfl, hb⟩
  have HBq := Lib.hid (HB.out.trans (hb.mono HB.out.size))
  clear HB
  have HB := HBq
  clear HBq
  have QAq := Lib.hid (QA.out.next hb)
  clear QA
  have QA := QAq
  clear QAq
  clear hb
  go_wp2_with fail
  refine (h12_ready H QA.out F0.out E1.out).mono ?_
  rintro e w4 ⟨⟨A1, c1, rfl, hr1, hnil1, hc1⟩, hb⟩
  have HBq := Lib.hid (HB.out.trans (hb.mono HB.out.size))
  clear HB
  have HB := HBq
  clear HBq
  have QAq := Lib.hid (QA.out.next hb)
  clear QA
  have QA := QAq
  clear QAq
  clear hb
  have R1 := Lib.hid hr1
  clear hr1 hnil1 hc1
  go_wp2_with fail
  refine (h12_lost H QA.out F0.out E2.out).mono ?_
  rintro e w5 ⟨⟨A2, c2, rfl, hr2, hnil2, hc2⟩, hb⟩
  have HBq := Lib.hid (HB.out.trans (hb.mono HB.out.size))
  clear HB
  have HB := HBq
  clear HBq
  have QAq := Lib.hid (QA.out.next hb)
  clear QA
  have QA := QAq
  clear QAq
  have R1q := Lib.hid (R1.out.next hb)
  clear R1
  have R1 := R1q
  clear R1q
  clear hb
  have T1 := Lib.hid hr2
  clear hr2 hnil2 hc2
  go_wp2
  go_loopw [5] (fun iv wr => ∃ i : Nat, i ≤ rl.length ∧ iv = .int .i64 i ∧ Below w5.heap.size w5 wr) (fun iv _ => rl.length - (intOf iv).toNat)
  case atStart => exact ⟨0, Nat.zero_le _, rfl, Below.refl _ _⟩
  case round =>
    obtain ⟨i, hi, rfl, hb⟩ := hrel
    have HV0 := Lib.hid hb
    have HBq := Lib.hid (HB.out.trans (hb.mono HB.out.size))
    clear HB
    have HB := HBq
    clear HBq
    have QAq := Lib.hid (QA.out.next hb)
    clear QA
    have QA := QAq
    clear QAq
    have R1q := Lib.hid (R1.out.next hb)
    clear R1
    have R1 := R1q
    clear R1q
    have T1q := Lib.hid (T1.out.next hb)
    clear T1
    have T1 := T1q
    clear T1q
    clear hb
    have hlr := LR.out
    have hll := LL.out
    by_cases hlt : i < rl.length
    · obtain ⟨b, off, rfl, hb1, hc⟩ := R1.out.one hlt
      obtain ⟨x, hx⟩ : ∃ y, rl.getD i 0 = y := ⟨_, rfl⟩
      rw [hx] at hc
      obtain ⟨_, p, hp, hpx, hpb⟩ := RO.out i x hlt hx
      have hga := getq_at HR.out hp hpx
      have GD : Hid (decide (GetQ l x) = true) := Lib.hid (decide_eq_true hga.1)
      have hgx := hga.2
      have hjr := HR.out.job hp
      have hns := HR.out.needs hp
      have hrs := of_decide_eq_true hpb
      unfold NeedsAt at hns
      obtain ⟨j, hj⟩ : ∃ j, jAt l p = j := ⟨_, rfl⟩
      rw [hj] at hgx hjr hns hrs
      have IX : Hid (I64 x) := Lib.hid (by have h1 := hjr.1.1; rw [← hpx, hj]; unfold I64; omega)
      have GT := Lib.hid hgx
      have HNS := Lib.hid hns
      have HRS := Lib.hid hrs.2
      have d0 : (j.state != 0) = false := by simpa using hrs.1
      clear hpx hpb hga hgx hjr hns hrs hj hp hb1
      go_wp2_with fail
      refine (h12_get H QA.out F0.out IX.out GT.out GD.out).mono ?_
      rintro e w7 ⟨⟨A3, m3, c3, rfl, hj3⟩, hb⟩
      have HBq := Lib.hid (HB.out.trans (hb.mono HB.out.size))
      clear HB
      have HB := HBq
      clear HBq
      have HV0q := Lib.hid (HV0.out.trans (hb.mono HV0.out.size))
      clear HV0
      have HV0 := HV0q
      clear HV0q
      have QAq := Lib.hid (QA.out.next hb)
      clear QA
      have QA := QAq
      clear QAq
      have R1q := Lib.hid (R1.out.next hb)
      clear R1
      have R1 := R1q
      clear R1q
      have T1q := Lib.hid (T1.out.next hb)
      clear T1
      have T1 := T1q
      clear T1q
      clear hb
      have J3 := Lib.hid hj3
      clear hj3 hc
      have hb := Below.alloc (Below.refl w7.heap.size w7) (Nat.le_refl _) (.cells #[.int .i64 j.id, .int .i64 j.spec.nodes, .int .i64 j.spec.cores, .int .i64 j.spec.gpus, .string j.spec.tag, .bool j.spec.whole, .int .i64 j.spec.long, .int .i64 j.spec.prio, .slice A3 m3 c3, .int .i64 j.state, .int .i64 j.came, .int .i64 j.frm, .int .i64 j.to] 30)
      have B3q := Lib.hid (boxJ_new w7 j A3 m3 c3)
      have HBq := Lib.hid (HB.out.trans (hb.mono HB.out.size))
      clear HB
      have HB := HBq
      clear HBq
      have HV0q := Lib.hid (HV0.out.trans (hb.mono HV0.out.size))
      clear HV0
      have HV0 := HV0q
      clear HV0q
      have QAq := Lib.hid (QA.out.next hb)
      clear QA
      have QA := QAq
      clear QAq
      have R1q := Lib.hid (R1.out.next hb)
      clear R1
      have R1 := R1q
      clear R1q
      have T1q := Lib.hid (T1.out.next hb)
      clear T1
      have T1 := T1q
      clear T1q
      have J3q := Lib.hid (J3.out.next hb)
      clear J3
      have J3 := J3q
      clear J3q
      clear hb
      have B3 := B3q
      clear B3q
      obtain ⟨V, hV⟩ : ∃ V, V = (w7.alloc (.cells #[.int .i64 j.id, .int .i64 j.spec.nodes, .int .i64 j.spec.cores, .int .i64 j.spec.gpus, .string j.spec.tag, .bool j.spec.whole, .int .i64 j.spec.long, .int .i64 j.spec.prio, .slice A3 m3 c3, .int .i64 j.state, .int .i64 j.came, .int .i64 j.frm, .int .i64 j.to] 30)) := ⟨_, rfl⟩
      obtain ⟨g3, hg3⟩ : ∃ g, w7.heap.size = g := ⟨_, rfl⟩
      rw [hg3] at B3
      have B3q : Hid (BoxJ V g3 j A3 m3 c3) := Lib.hid (by rw [hV]; exact B3.out)
      clear B3
      have B3 := B3q
      clear B3q
      rw [← hV] at QA R1 T1 J3 HB HV0
      have q9 := B3.out.c9
      rw [hV] at q9
      have hm3 := J3.out.few
      unfold maxLen at hm3
      go_wp2
      try rw [hg3]
      rw [← hV]
      have HG3 := Lib.hid hg3
      clear hg3 hV q9
      go_loopw [8] (fun iv wr => ∃ q : Nat, q ≤ m3 ∧ iv = .int .i64 q ∧ Below V.heap.size V wr) (fun iv _ => m3 - (intOf iv).toNat)
      case atStart => exact ⟨0, Nat.zero_le _, rfl, Below.refl _ _⟩
      case round =>
        obtain ⟨q, hq, rfl, hb⟩ := hrel
        have HV2 := Lib.hid hb
        have HBq := Lib.hid (HB.out.trans (hb.mono HB.out.size))
        clear HB
        have HB := HBq
        clear HBq
        have HV0q := Lib.hid (HV0.out.trans (hb.mono HV0.out.size))
        clear HV0
        have HV0 := HV0q
        clear HV0q
        have QAq := Lib.hid (QA.out.next hb)
        clear QA
        have QA := QAq
        clear QAq
        have R1q := Lib.hid (R1.out.next hb)
        clear R1
        have R1 := R1q
        clear R1q
        have T1q := Lib.hid (T1.out.next hb)
        clear T1
        have T1 := T1q
        clear T1q
        have J3q := Lib.hid (J3.out.next hb)
        clear J3
        have J3 := J3q
        clear J3q
        have B3q := Lib.hid (B3.out.next hb)
        clear B3
        have B3 := B3q
        clear B3q
        clear hb
        have q8 := B3.out.c8
        by_cases hlq : q < m3
        · have hql : q < j.needs.length := by rw [J3.out.reads.1]; exact hlq
          obtain ⟨b2, off2, rfl, hb2, hc2⟩ := J3.out.reads.one hlq
          obtain ⟨y, hy⟩ : ∃ y, j.needs.getD q 0 = y := ⟨_, rfl⟩
          rw [hy] at hc2
          have hh := HNS.out q hql
          have hs3 := HRS.out q hql
          rw [hy] at hh hs3
          have IY : Hid (I64 y) := Lib.hid (by rw [← hy]; exact J3.out.int.2.2.2.2.2 _ (mem_getQ hql))
          have hgh := get_has HR.out hh
          have GD2 : Hid (decide (GetQ l y) = true) := Lib.hid (decide_eq_true hgh.1)
          obtain ⟨z, hz⟩ : ∃ z, jOf l y = z := ⟨_, rfl⟩
          have GT2 : Hid (getQ l y = z) := Lib.hid (by rw [hgh.2, hz])
          rw [hz] at hs3
          have d3 : (z.state != 3) = false := by simpa using hs3
          clear hql hy hh hs3 hgh hz hb2
          go_wp2_with fail
          refine (h12_get H QA.out F0.out IY.out GT2.out GD2.out).mono ?_
          rintro e w8 ⟨⟨A4, m4, c4, rfl, hj4⟩, hb⟩
          have HBq := Lib.hid (HB.out.trans (hb.mono HB.out.size))
          clear HB
          have HB := HBq
          clear HBq
          have HV0q := Lib.hid (HV0.out.trans (hb.mono HV0.out.size))
          clear HV0
          have HV0 := HV0q
          clear HV0q
          have HV2q := Lib.hid (HV2.out.trans (hb.mono HV2.out.size))
          clear HV2
          have HV2 := HV2q
          clear HV2q
          have QAq := Lib.hid (QA.out.next hb)
          clear QA
          have QA := QAq
          clear QAq
          have R1q := Lib.hid (R1.out.next hb)
          clear R1
          have R1 := R1q
          clear R1q
          have T1q := Lib.hid (T1.out.next hb)
          clear T1
          have T1 := T1q
          clear T1q
          have J3q := Lib.hid (J3.out.next hb)
          clear J3
          have J3 := J3q
          clear J3q
          have B3q := Lib.hid (B3.out.next hb)
          clear B3
          have B3 := B3q
          clear B3q
          clear hb
          have J4 := Lib.hid hj4
          clear hj4 hc2 q8
          have hb := Below.alloc (Below.refl w8.heap.size w8) (Nat.le_refl _) (.cells #[.int .i64 z.id, .int .i64 z.spec.nodes, .int .i64 z.spec.cores, .int .i64 z.spec.gpus, .string z.spec.tag, .bool z.spec.whole, .int .i64 z.spec.long, .int .i64 z.spec.prio, .slice A4 m4 c4, .int .i64 z.state, .int .i64 z.came, .int .i64 z.frm, .int .i64 z.to] 30)
          have B4q := Lib.hid (boxJ_new w8 z A4 m4 c4)
          have HBq := Lib.hid (HB.out.trans (hb.mono HB.out.size))
          clear HB
          have HB := HBq
          clear HBq
          have HV0q := Lib.hid (HV0.out.trans (hb.mono HV0.out.size))
          clear HV0
          have HV0 := HV0q
          clear HV0q
          have HV2q := Lib.hid (HV2.out.trans (hb.mono HV2.out.size))
          clear HV2
          have HV2 := HV2q
          clear HV2q
          have QAq := Lib.hid (QA.out.next hb)
          clear QA
          have QA := QAq
          clear QAq
          have R1q := Lib.hid (R1.out.next hb)
          clear R1
          have R1 := R1q
          clear R1q
          have T1q := Lib.hid (T1.out.next hb)
          clear T1
          have T1 := T1q
          clear T1q
          have J3q := Lib.hid (J3.out.next hb)
          clear J3
          have J3 := J3q
          clear J3q
          have B3q := Lib.hid (B3.out.next hb)
          clear B3
          have B3 := B3q
          clear B3q
          have J4q := Lib.hid (J4.out.next hb)
          clear J4
          have J4 := J4q
          clear J4q
          clear hb
          have B4 := B4q
          clear B4q
          have s9 := B4.out.c9
          go_wp2
          go_roundw
          case rel => exact ⟨q + 1, by omega, by go_num, HV2.out⟩
          case measure => simp [intOf]; omega
        · obtain ⟨V2, rfl⟩ : ∃ V, V = wr := ⟨_, rfl⟩
          by_cases i0 : 0 < i
          · have g0 : decide (0 < i) = true := decide_eq_true i0
            have g3 : ((i : Int) - 1) = ((i - 1 : Nat) : Int) := by omega
            have hiz : (0 : Int) ≤ (i : Int) - 1 := by omega
            have hin : (i : Int) - 1 < (rl.length : Int) := by omega
            obtain ⟨b, off, eR, hb1, hc⟩ := R1.out.one (k := i - 1) (by omega)
            obtain ⟨x5, hx5⟩ : ∃ y, rl.getD (i - 1) 0 = y := ⟨_, rfl⟩
            rw [hx5] at hc
            injection eR with eR
            injection eR with eB eO _
            subst eB eO
            obtain ⟨_, p, hp, hpx, _⟩ := RO.out (i - 1) x5 (by omega) hx5
            have hga := getq_at HR.out hp hpx
            have GD5 : Hid (decide (GetQ l x5) = true) := Lib.hid (decide_eq_true hga.1)
            have hbf := RB.out i x x5 hlt i0 hx hx5
            rw [GT.out, hga.2] at hbf
            have hgx := hga.2
            have hjr := HR.out.job hp
            obtain ⟨j5, hj5⟩ : ∃ j, jAt l p = j := ⟨_, rfl⟩
            rw [hj5] at hgx hjr hbf
            have IX5 : Hid (I64 x5) := Lib.hid (by have h1 := hjr.1.1; rw [← hpx, hj5]; unfold I64; omega)
            have GT5 := Lib.hid hgx
            clear hpx hga hgx hjr hj5 hp hb1
            go_wp2_with fail
            refine (h12_get H QA.out F0.out IX5.out GT5.out GD5.out).mono ?_
            rintro e w9 ⟨⟨A5, m5, c5, rfl, hj6⟩, hb⟩
            have HBq := Lib.hid (HB.out.trans (hb.mono HB.out.size))
            clear HB
            have HB := HBq
            clear HBq
            have HV0q := Lib.hid (HV0.out.trans (hb.mono HV0.out.size))
            clear HV0
            have HV0 := HV0q
            clear HV0q
            have QAq := Lib.hid (QA.out.next hb)
            clear QA
            have QA := QAq
            clear QAq
            have R1q := Lib.hid (R1.out.next hb)
            clear R1
            have R1 := R1q
            clear R1q
            have T1q := Lib.hid (T1.out.next hb)
            clear T1
            have T1 := T1q
            clear T1q
            have J3q := Lib.hid (J3.out.next hb)
            clear J3
            have J3 := J3q
            clear J3q
            have B3q := Lib.hid (B3.out.next hb)
            clear B3
            have B3 := B3q
            clear B3q
            clear hb
            have J5 := Lib.hid hj6
            clear hj6 hc
            have hb := Below.alloc (Below.refl w9.heap.size w9) (Nat.le_refl _) (.cells #[.int .i64 j5.id, .int .i64 j5.spec.nodes, .int .i64 j5.spec.cores, .int .i64 j5.spec.gpus, .string j5.spec.tag, .bool j5.spec.whole, .int .i64 j5.spec.long, .int .i64 j5.spec.prio, .slice A5 m5 c5, .int .i64 j5.state, .int .i64 j5.came, .int .i64 j5.frm, .int .i64 j5.to] 30)
            have B5q := Lib.hid (boxJ_new w9 j5 A5 m5 c5)
            have HBq := Lib.hid (HB.out.trans (hb.mono HB.out.size))
            clear HB
            have HB := HBq
            clear HBq
            have HV0q := Lib.hid (HV0.out.trans (hb.mono HV0.out.size))
            clear HV0
            have HV0 := HV0q
            clear HV0q
            have QAq := Lib.hid (QA.out.next hb)
            clear QA
            have QA := QAq
            clear QAq
            have R1q := Lib.hid (R1.out.next hb)
            clear R1
            have R1 := R1q
            clear R1q
            have T1q := Lib.hid (T1.out.next hb)
            clear T1
            have T1 := T1q
            clear T1q
            have J3q := Lib.hid (J3.out.next hb)
            clear J3
            have J3 := J3q
            clear J3q
            have B3q := Lib.hid (B3.out.next hb)
            clear B3
            have B3 := B3q
            clear B3q
            have J5q := Lib.hid (J5.out.next hb)
            clear J5
            have J5 := J5q
            clear J5q
            clear hb
            have B5 := B5q
            clear B5q
            unfold Before at hbf
            have s0 := B5.out.c0
            have s7 := B5.out.c7
            have q0 := B3.out.c0
            have q7 := B3.out.c7
            have d1 : decide (j5.spec.prio < j.spec.prio) = false := decide_eq_false (by omega)
            by_cases hpe : j5.spec.prio = j.spec.prio
            · have d2 : (j5.spec.prio == j.spec.prio) = true := by rw [beq_iff_eq]; exact hpe
              have d4 : decide (j.id ≤ j5.id) = false := decide_eq_false (by omega)
              obtain ⟨V3, hV3⟩ : ∃ V, V = (w9.alloc (.cells #[.int .i64 j5.id, .int .i64 j5.spec.nodes, .int .i64 j5.spec.cores, .int .i64 j5.spec.gpus, .string j5.spec.tag, .bool j5.spec.whole, .int .i64 j5.spec.long, .int .i64 j5.spec.prio, .slice A5 m5 c5, .int .i64 j5.state, .int .i64 j5.came, .int .i64 j5.frm, .int .i64 j5.to] 30)) := ⟨_, rfl⟩
              rw [← hV3] at QA R1 T1 J3 B3 HB HV0
              clear J5 B5
              clear hbf hpe
              go_wp2
              rw [← hV3]
              clear hV3 s0 s7 q0 q7
              go_loopw [13] (fun iv wr => ∃ q : Nat, q ≤ ll.length ∧ iv = .int .i64 q ∧ Below V3.heap.size V3 wr) (fun iv _ => ll.length - (intOf iv).toNat)
              case atStart => exact ⟨0, Nat.zero_le _, rfl, Below.refl _ _⟩
              case round =>
                obtain ⟨q, hq, rfl, hb⟩ := hrel
                have HV3 := Lib.hid hb
                have HBq := Lib.hid (HB.out.trans (hb.mono HB.out.size))
                clear HB
                have HB := HBq
                clear HBq
                have HV0q := Lib.hid (HV0.out.trans (hb.mono HV0.out.size))
                clear HV0
                have HV0 := HV0q
                clear HV0q
                have QAq := Lib.hid (QA.out.next hb)
                clear QA
                have QA := QAq
                clear QAq
                have R1q := Lib.hid (R1.out.next hb)
                clear R1
                have R1 := R1q
                clear R1q
                have T1q := Lib.hid (T1.out.next hb)
                clear T1
                have T1 := T1q
                clear T1q
                have J3q := Lib.hid (J3.out.next hb)
                clear J3
                have J3 := J3q
                clear J3q
                have B3q := Lib.hid (B3.out.next hb)
                clear B3
                have B3 := B3q
                clear B3q
                clear hb
                by_cases hlq : q < ll.length
                · obtain ⟨b3, off3, rfl, hb3, hc3⟩ := T1.out.one hlq
                  obtain ⟨y3, hy3⟩ : ∃ y, ll.getD q 0 = y := ⟨_, rfl⟩
                  rw [hy3] at hc3
                  have hne := AP.out i q x y3 hlt hx hlq hy3
                  have d33 : (y3 == x) = false := by rw [beq_eq_false_iff_ne]; exact hne
                  obtain ⟨b, off, eR, hb1, hc⟩ := R1.out.one hlt
                  rw [hx] at hc
                  injection eR with eR
                  injection eR with eB eO _
                  subst eB eO
                  clear hne hy3
                  go_wp2
                  have zc0 : ∀ p : Later wr, p.now.cell? ⟨b3, off3 + q, none⟩ = some (.int .i64 y3) := fun _ => Later.cell hb3 hc3
                  have zc1 : ∀ p : Later wr, p.now.cell? ⟨b, off + i, none⟩ = some (.int .i64 x) := fun _ => Later.cell hb1 hc
                  refine wp_region_later (by kernel_rfl) (by kernel_rfl) ?_
                  repeat (first | go_big_quiet_skip | (go_big_quiet_want; go_big_quiet_op; first | go_big_quiet_on | (apply Exists.intro; refine ⟨fun pz => ?_, ?_⟩; (fail); go_big_quiet_on)))
                  refine wpQuiet_nil ?_
                  intro _ hw'
                  obtain ⟨pz, rfl⟩ := hw'
                  obtain ⟨w10, hb⟩ := pz
                  try dsimp only
                  clear zc0 zc1
                  have HBq := Lib.hid (HB.out.trans (hb.mono HB.out.size))
                  clear HB
                  have HB := HBq
                  clear HBq
                  have HV0q := Lib.hid (HV0.out.trans (hb.mono HV0.out.size))
                  clear HV0
                  have HV0 := HV0q
                  clear HV0q
                  have HV3q := Lib.hid (HV3.out.trans (hb.mono HV3.out.size))
                  clear HV3
                  have HV3 := HV3q
                  clear HV3q
                  have QAq := Lib.hid (QA.out.next hb)
                  clear QA
                  have QA := QAq
                  clear QAq
                  have R1q := Lib.hid (R1.out.next hb)
                  clear R1
                  have R1 := R1q
                  clear R1q
                  have T1q := Lib.hid (T1.out.next hb)
                  clear T1
                  have T1 := T1q
                  clear T1q
                  have J3q := Lib.hid (J3.out.next hb)
                  clear J3
                  have J3 := J3q
                  clear J3q
                  have B3q := Lib.hid (B3.out.next hb)
                  clear B3
                  have B3 := B3q
                  clear B3q
                  clear hb
                  go_wp2
                  go_roundw
                  case rel => exact ⟨q + 1, by omega, by go_num, HV3.out⟩
                  case measure => simp [intOf]; omega
                · go_wp2
                  go_roundw
                  case rel => exact ⟨i + 1, by omega, by go_num, HV0.out⟩
                  case measure => simp [intOf]; omega
            · have d2 : (j5.spec.prio == j.spec.prio) = false := by rw [beq_eq_false_iff_ne]; exact hpe
              obtain ⟨V3, hV3⟩ : ∃ V, V = (w9.alloc (.cells #[.int .i64 j5.id, .int .i64 j5.spec.nodes, .int .i64 j5.spec.cores, .int .i64 j5.spec.gpus, .string j5.spec.tag, .bool j5.spec.whole, .int .i64 j5.spec.long, .int .i64 j5.spec.prio, .slice A5 m5 c5, .int .i64 j5.state, .int .i64 j5.came, .int .i64 j5.frm, .int .i64 j5.to] 30)) := ⟨_, rfl⟩
              rw [← hV3] at QA R1 T1 J3 B3 HB HV0
              clear J5 B5
              clear hbf hpe
              go_wp2
              rw [← hV3]
              clear hV3 s0 s7 q0 q7
              go_loopw [13] (fun iv wr => ∃ q : Nat, q ≤ ll.length ∧ iv = .int .i64 q ∧ Below V3.heap.size V3 wr) (fun iv _ => ll.length - (intOf iv).toNat)
              case atStart => exact ⟨0, Nat.zero_le _, rfl, Below.refl _ _⟩
              case round =>
                obtain ⟨q, hq, rfl, hb⟩ := hrel
                have HV3 := Lib.hid hb
                have HBq := Lib.hid (HB.out.trans (hb.mono HB.out.size))
                clear HB
                have HB := HBq
                clear HBq
                have HV0q := Lib.hid (HV0.out.trans (hb.mono HV0.out.size))
                clear HV0
                have HV0 := HV0q
                clear HV0q
                have QAq := Lib.hid (QA.out.next hb)
                clear QA
                have QA := QAq
                clear QAq
                have R1q := Lib.hid (R1.out.next hb)
                clear R1
                have R1 := R1q
                clear R1q
                have T1q := Lib.hid (T1.out.next hb)
                clear T1
                have T1 := T1q
                clear T1q
                have J3q := Lib.hid (J3.out.next hb)
                clear J3
                have J3 := J3q
                clear J3q
                have B3q := Lib.hid (B3.out.next hb)
                clear B3
                have B3 := B3q
                clear B3q
                clear hb
                by_cases hlq : q < ll.length
                · obtain ⟨b3, off3, rfl, hb3, hc3⟩ := T1.out.one hlq
                  obtain ⟨y3, hy3⟩ : ∃ y, ll.getD q 0 = y := ⟨_, rfl⟩
                  rw [hy3] at hc3
                  have hne := AP.out i q x y3 hlt hx hlq hy3
                  have d33 : (y3 == x) = false := by rw [beq_eq_false_iff_ne]; exact hne
                  obtain ⟨b, off, eR, hb1, hc⟩ := R1.out.one hlt
                  rw [hx] at hc
                  injection eR with eR
                  injection eR with eB eO _
                  subst eB eO
                  clear hne hy3
                  go_wp2
                  have zc0 : ∀ p : Later wr, p.now.cell? ⟨b3, off3 + q, none⟩ = some (.int .i64 y3) := fun _ => Later.cell hb3 hc3
                  have zc1 : ∀ p : Later wr, p.now.cell? ⟨b, off + i, none⟩ = some (.int .i64 x) := fun _ => Later.cell hb1 hc
                  refine wp_region_later (by kernel_rfl) (by kernel_rfl) ?_
                  repeat (first | go_big_quiet_skip | (go_big_quiet_want; go_big_quiet_op; first | go_big_quiet_on | (apply Exists.intro; refine ⟨fun pz => ?_, ?_⟩; (fail); go_big_quiet_on)))
                  refine wpQuiet_nil ?_
                  intro _ hw'
                  obtain ⟨pz, rfl⟩ := hw'
                  obtain ⟨w10, hb⟩ := pz
                  try dsimp only
                  clear zc0 zc1
                  have HBq := Lib.hid (HB.out.trans (hb.mono HB.out.size))
                  clear HB
                  have HB := HBq
                  clear HBq
                  have HV0q := Lib.hid (HV0.out.trans (hb.mono HV0.out.size))
                  clear HV0
                  have HV0 := HV0q
                  clear HV0q
                  have HV3q := Lib.hid (HV3.out.trans (hb.mono HV3.out.size))
                  clear HV3
                  have HV3 := HV3q
                  clear HV3q
                  have QAq := Lib.hid (QA.out.next hb)
                  clear QA
                  have QA := QAq
                  clear QAq
                  have R1q := Lib.hid (R1.out.next hb)
                  clear R1
                  have R1 := R1q
                  clear R1q
                  have T1q := Lib.hid (T1.out.next hb)
                  clear T1
                  have T1 := T1q
                  clear T1q
                  have J3q := Lib.hid (J3.out.next hb)
                  clear J3
                  have J3 := J3q
                  clear J3q
                  have B3q := Lib.hid (B3.out.next hb)
                  clear B3
                  have B3 := B3q
                  clear B3q
                  clear hb
                  go_wp2
                  go_roundw
                  case rel => exact ⟨q + 1, by omega, by go_num, HV3.out⟩
                  case measure => simp [intOf]; omega
                · go_wp2
                  go_roundw
                  case rel => exact ⟨i + 1, by omega, by go_num, HV0.out⟩
                  case measure => simp [intOf]; omega
          · have g0 : decide (0 < i) = false := decide_eq_false i0
            go_wp2
            go_loopw [13] (fun iv wr => ∃ q : Nat, q ≤ ll.length ∧ iv = .int .i64 q ∧ Below V2.heap.size V2 wr) (fun iv _ => ll.length - (intOf iv).toNat)
            case atStart => exact ⟨0, Nat.zero_le _, rfl, Below.refl _ _⟩
            case round =>
              obtain ⟨q, hq, rfl, hb⟩ := hrel
              have HV3 := Lib.hid hb
              have HBq := Lib.hid (HB.out.trans (hb.mono HB.out.size))
              clear HB
              have HB := HBq
              clear HBq
              have HV0q := Lib.hid (HV0.out.trans (hb.mono HV0.out.size))
              clear HV0
              have HV0 := HV0q
              clear HV0q
              have QAq := Lib.hid (QA.out.next hb)
              clear QA
              have QA := QAq
              clear QAq
              have R1q := Lib.hid (R1.out.next hb)
              clear R1
              have R1 := R1q
              clear R1q
              have T1q := Lib.hid (T1.out.next hb)
              clear T1
              have T1 := T1q
              clear T1q
              have J3q := Lib.hid (J3.out.next hb)
              clear J3
              have J3 := J3q
              clear J3q
              have B3q := Lib.hid (B3.out.next hb)
              clear B3
              have B3 := B3q
              clear B3q
              clear hb
              by_cases hlq : q < ll.length
              · obtain ⟨b3, off3, rfl, hb3, hc3⟩ := T1.out.one hlq
                obtain ⟨y3, hy3⟩ : ∃ y, ll.getD q 0 = y := ⟨_, rfl⟩
                rw [hy3] at hc3
                have hne := AP.out i q x y3 hlt hx hlq hy3
                have d33 : (y3 == x) = false := by rw [beq_eq_false_iff_ne]; exact hne
                obtain ⟨b, off, eR, hb1, hc⟩ := R1.out.one hlt
                rw [hx] at hc
                injection eR with eR
                injection eR with eB eO _
                subst eB eO
                clear hne hy3
                go_wp2
                have zc0 : ∀ p : Later wr, p.now.cell? ⟨b3, off3 + q, none⟩ = some (.int .i64 y3) := fun _ => Later.cell hb3 hc3
                have zc1 : ∀ p : Later wr, p.now.cell? ⟨b, off + i, none⟩ = some (.int .i64 x) := fun _ => Later.cell hb1 hc
                refine wp_region_later (by kernel_rfl) (by kernel_rfl) ?_
                repeat (first | go_big_quiet_skip | (go_big_quiet_want; go_big_quiet_op; first | go_big_quiet_on | (apply Exists.intro; refine ⟨fun pz => ?_, ?_⟩; (fail); go_big_quiet_on)))
                refine wpQuiet_nil ?_
                intro _ hw'
                obtain ⟨pz, rfl⟩ := hw'
                obtain ⟨w10, hb⟩ := pz
                try dsimp only
                clear zc0 zc1
                have HBq := Lib.hid (HB.out.trans (hb.mono HB.out.size))
                clear HB
                have HB := HBq
                clear HBq
                have HV0q := Lib.hid (HV0.out.trans (hb.mono HV0.out.size))
                clear HV0
                have HV0 := HV0q
                clear HV0q
                have HV3q := Lib.hid (HV3.out.trans (hb.mono HV3.out.size))
                clear HV3
                have HV3 := HV3q
                clear HV3q
                have QAq := Lib.hid (QA.out.next hb)
                clear QA
                have QA := QAq
                clear QAq
                have R1q := Lib.hid (R1.out.next hb)
                clear R1
                have R1 := R1q
                clear R1q
                have T1q := Lib.hid (T1.out.next hb)
                clear T1
                have T1 := T1q
                clear T1q
                have J3q := Lib.hid (J3.out.next hb)
                clear J3
                have J3 := J3q
                clear J3q
                have B3q := Lib.hid (B3.out.next hb)
                clear B3
                have B3 := B3q
                clear B3q
                clear hb
                go_wp2
                go_roundw
                case rel => exact ⟨q + 1, by omega, by go_num, HV3.out⟩
                case measure => simp [intOf]; omega
              · go_wp2
                go_roundw
                case rel => exact ⟨i + 1, by omega, by go_num, HV0.out⟩
                case measure => simp [intOf]; omega
    · obtain ⟨V4, rfl⟩ : ∃ V, V = wr := ⟨_, rfl⟩
      clear HV0
      go_wp2
      go_loopw [14] (fun iv wr => ∃ q : Nat, q ≤ ll.length ∧ iv = .int .i64 q ∧ Below V4.heap.size V4 wr) (fun iv _ => ll.length - (intOf iv).toNat)
      case atStart => exact ⟨0, Nat.zero_le _, rfl, Below.refl _ _⟩
      case round =>
        obtain ⟨q, hq, rfl, hb⟩ := hrel
        have HV4 := Lib.hid hb
        have HBq := Lib.hid (HB.out.trans (hb.mono HB.out.size))
        clear HB
        have HB := HBq
        clear HBq
        have QAq := Lib.hid (QA.out.next hb)
        clear QA
        have QA := QAq
        clear QAq
        have R1q := Lib.hid (R1.out.next hb)
        clear R1
        have R1 := R1q
        clear R1q
        have T1q := Lib.hid (T1.out.next hb)
        clear T1
        have T1 := T1q
        clear T1q
        clear hb
        by_cases hlq : q < ll.length
        · obtain ⟨b3, off3, rfl, hb3, hc3⟩ := T1.out.one hlq
          obtain ⟨x, hx⟩ : ∃ y, ll.getD q 0 = y := ⟨_, rfl⟩
          rw [hx] at hc3
          obtain ⟨_, p, hp, hpx, hpl⟩ := LO.out q x hlq hx
          have hga := getq_at HR.out hp hpx
          have GD : Hid (decide (GetQ l x) = true) := Lib.hid (decide_eq_true hga.1)
          have hgx := hga.2
          have hjr := HR.out.job hp
          have hst := hpl.state
          have hnd := hpl.needs
          obtain ⟨j, hj⟩ : ∃ j, jAt l p = j := ⟨_, rfl⟩
          rw [hj] at hgx hjr hst hnd
          have IX : Hid (I64 x) := Lib.hid (by have h1 := hjr.1.1; rw [← hpx, hj]; unfold I64; omega)
          have GT := Lib.hid hgx
          have HND := Lib.hid hnd
          have hs2 : j.state = 0 ∨ j.state = 1 := by have h1 := hjr.2.2.1.1.1; omega
          have HS2 := Lib.hid hs2
          clear hpx hpl hga hgx hjr hst hnd hj hp hb3 hs2 hx
          go_wp2_with fail
          refine (h12_get H QA.out F0.out IX.out GT.out GD.out).mono ?_
          rintro e w8 ⟨⟨A3, m3, c3, rfl, hj3⟩, hb⟩
          have HBq := Lib.hid (HB.out.trans (hb.mono HB.out.size))
          clear HB
          have HB := HBq
          clear HBq
          have HV4q := Lib.hid (HV4.out.trans (hb.mono HV4.out.size))
          clear HV4
          have HV4 := HV4q
          clear HV4q
          have QAq := Lib.hid (QA.out.next hb)
          clear QA
          have QA := QAq
          clear QAq
          have R1q := Lib.hid (R1.out.next hb)
          clear R1
          have R1 := R1q
          clear R1q
          have T1q := Lib.hid (T1.out.next hb)
          clear T1
          have T1 := T1q
          clear T1q
          clear hb
          have J3 := Lib.hid hj3
          clear hj3 hc3
          have hb := Below.alloc (Below.refl w8.heap.size w8) (Nat.le_refl _) (.cells #[.int .i64 j.id, .int .i64 j.spec.nodes, .int .i64 j.spec.cores, .int .i64 j.spec.gpus, .string j.spec.tag, .bool j.spec.whole, .int .i64 j.spec.long, .int .i64 j.spec.prio, .slice A3 m3 c3, .int .i64 j.state, .int .i64 j.came, .int .i64 j.frm, .int .i64 j.to] 30)
          have B3q := Lib.hid (boxJ_new w8 j A3 m3 c3)
          have HBq := Lib.hid (HB.out.trans (hb.mono HB.out.size))
          clear HB
          have HB := HBq
          clear HBq
          have HV4q := Lib.hid (HV4.out.trans (hb.mono HV4.out.size))
          clear HV4
          have HV4 := HV4q
          clear HV4q
          have QAq := Lib.hid (QA.out.next hb)
          clear QA
          have QA := QAq
          clear QAq
          have R1q := Lib.hid (R1.out.next hb)
          clear R1
          have R1 := R1q
          clear R1q
          have T1q := Lib.hid (T1.out.next hb)
          clear T1
          have T1 := T1q
          clear T1q
          have J3q := Lib.hid (J3.out.next hb)
          clear J3
          have J3 := J3q
          clear J3q
          clear hb
          have B3 := B3q
          clear B3q
          have hm3 : 0 < m3 := by rw [← J3.out.reads.1]; exact HND.out
          have dm : ((m3 : Int) == 0) = false := by rw [beq_eq_false_iff_ne]; omega
          have dm2 : (m3 == 0) = false := by rw [beq_eq_false_iff_ne]; omega
          have q8 := B3.out.c8
          have q9 := B3.out.c9
          rcases HS2.out with hs | hs
          · have ds0 : (j.state != 0) = false := by rw [hs]; rfl
            clear hs
            go_wp2
            go_roundw
            case rel => exact ⟨q + 1, by omega, by go_num, HV4.out⟩
            case measure => simp [intOf]; omega
          · have ds0 : (j.state != 0) = true := by rw [hs]; rfl
            have ds1 : (j.state != 1) = false := by rw [hs]; rfl
            clear hs
            go_wp2
            go_roundw
            case rel => exact ⟨q + 1, by omega, by go_num, HV4.out⟩
            case measure => simp [intOf]; omega
        · go_wp2_with fail
          refine (h12_counts H QA.out F0.out E3.out).mono ?_
          rintro e w8 ⟨rfl, hb⟩
          have HBq := Lib.hid (HB.out.trans (hb.mono HB.out.size))
          clear HB
          have HB := HBq
          clear HBq
          have QAq := Lib.hid (QA.out.next hb)
          clear QA
          have QA := QAq
          clear QAq
          have R1q := Lib.hid (R1.out.next hb)
          clear R1
          have R1 := R1q
          clear R1q
          have T1q := Lib.hid (T1.out.next hb)
          clear T1
          have T1 := T1q
          clear T1q
          clear hb
          have BC := Lib.hid (boxC_new w8 kc)
          have x0 := BC.out.c0
          have x1 := BC.out.c1
          have x2 := BC.out.c2
          have x3 := BC.out.c3
          have x4 := BC.out.c4
          have x5 := BC.out.c5
          have x6 := BC.out.c6
          unfold c7O at x0 x1 x2 x3 x4 x5 x6
          have hsum := HSM.out
          have y0 := HLE.out 0
          have y1 := HLE.out 1
          have y2 := HLE.out 2
          have y3 := HLE.out 3
          have y4 := HLE.out 4
          have y5 := HLE.out 5
          have y6 := HLE.out 6
          obtain ⟨k0, hk0⟩ : ∃ v, kc 0 = v := ⟨_, rfl⟩
          obtain ⟨k1, hk1⟩ : ∃ v, kc 1 = v := ⟨_, rfl⟩
          obtain ⟨k2, hk2⟩ : ∃ v, kc 2 = v := ⟨_, rfl⟩
          obtain ⟨k3, hk3⟩ : ∃ v, kc 3 = v := ⟨_, rfl⟩
          obtain ⟨k4, hk4⟩ : ∃ v, kc 4 = v := ⟨_, rfl⟩
          obtain ⟨k5, hk5⟩ : ∃ v, kc 5 = v := ⟨_, rfl⟩
          obtain ⟨k6, hk6⟩ : ∃ v, kc 6 = v := ⟨_, rfl⟩
          simp only [hk0, hk1, hk2, hk3, hk4, hk5, hk6] at x0 x1 x2 x3 x4 x5 x6 y0 y1 y2 y3 y4 y5 y6 hsum ⊢
          have wv1 : IntKind.i64.wrap (k0 + k1) = k0 + k1 := IntWalk.i64_in _ (by omega)
          have wv2 : IntKind.i64.wrap (k0 + k1 + k2) = k0 + k1 + k2 := IntWalk.i64_in _ (by omega)
          have wv3 : IntKind.i64.wrap (k0 + k1 + k2 + k3) = k0 + k1 + k2 + k3 := IntWalk.i64_in _ (by omega)
          have wv4 : IntKind.i64.wrap (k0 + k1 + k2 + k3 + k4) = k0 + k1 + k2 + k3 + k4 := IntWalk.i64_in _ (by omega)
          have wv5 : IntKind.i64.wrap (k0 + k1 + k2 + k3 + k4 + k5) = k0 + k1 + k2 + k3 + k4 + k5 := IntWalk.i64_in _ (by omega)
          have wv6 : IntKind.i64.wrap (k0 + k1 + k2 + k3 + k4 + k5 + k6) = k0 + k1 + k2 + k3 + k4 + k5 + k6 := IntWalk.i64_in _ (by omega)
          have dz : (k0 + k1 + k2 + k3 + k4 + k5 + k6 == (n : Int)) = true := by rw [beq_iff_eq]; exact hsum
          have HBF := Lib.hid (HB.out.alloc HB.out.size (.cells #[.int .i64 k0, .int .i64 k1, .int .i64 k2, .int .i64 k3, .int .i64 k4, .int .i64 k5, .int .i64 k6] 25))
          clear hsum y0 y1 y2 y3 y4 y5 y6 BC hk0 hk1 hk2 hk3 hk4 hk5 hk6
          go_wp2
          go_ret
          exact ⟨rfl, HBF.out⟩


theorem queueOrder_walk (H : QueueOk) (A : Option Addr) (n c : Nat) (l : Qu) (w : World) (hl : QAsk w A n c l) : Calls Try.prog 4 #[.slice A n c] w fun e w' => e = .returned (.bool true) ∧ Below w.heap.size w w' := by
  cases h0 : shortQ l with
  | false => exact queueOrder_l0 H A n c l w hl h0
  | true =>
    cases hr : rightQ l with
    | false => exact queueOrder_l1 H A n c l w hl h0 hr
    | true => exact queueOrder_yes H A n c l w hl h0 (of_decide_eq_true hr)

end Go.Proofs.Ytimgdlddfnglaaa
