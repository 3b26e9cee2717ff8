/- The statement QueueAdds, as a walk over the contracts. Written by gen/gen_queuelaws.py. -/
import Derived.Test.YtimgdlddfnglaaaMg08
import Derived.Test.YtimgdlddfnglaaaZQueueGrowMath
import Derived.Test.YtimgdlddfnglaaaMg15
import Derived.Test.YtimgdlddfnglaaaMg13
namespace Go.Proofs.Ytimgdlddfnglaaa
open Go.RowKit

set_option maxRecDepth 100000 in
set_option maxHeartbeats 8000000 in
theorem queueAdds_l0 (H : QueueOk) (A : Option Addr) (n c : Nat) (l : Qu) (s : Sp) (AN : Option Addr) (mN cN : Nat) (ns : List Int) (now : Int) (w : World) (hl : QAsk w A n c l) (hs : SAsk s) (hm : MAsk w AN mN cN ns) (hn : I64 now) (h0 : shortQ l = false) :
    Calls Try.prog 6 #[.slice A n c, .agg #[.int .i64 s.nodes, .int .i64 s.cores, .int .i64 s.gpus, .string s.tag, .bool s.whole, .int .i64 s.long, .int .i64 s.prio], .slice AN mN cN, .int .i64 now] w fun e w' => e = .returned (.bool true) ∧ Below w.heap.size w w' := by
  obtain ⟨W, hW⟩ : ∃ W, W = w.alloc (spO s) := ⟨_, rfl⟩
  have BS : Hid (BoxS W w.heap.size s) := Lib.hid (by rw [hW]; exact box_new w s)
  have hb0 : Below w.heap.size w W := by rw [hW]; exact (Below.refl _ _).alloc (Nat.le_refl _) _
  have HB := Lib.hid hb0
  have QA := Lib.hid (hl.next hb0)
  have MA := Lib.hid (hm.next hb0)
  have HS := Lib.hid hs
  have IN := Lib.hid hn
  have HL := Lib.hid hl.reads.len
  have hml := hm.few
  unfold maxLen at hml
  unfold spO at hW
  clear hb0 hl hs hm hn
  have E0 := Lib.hid h0
  have _u1 := HS
  have _u2 := IN
  clear _u1 _u2 h0
  go_enter Try.func6, Try.ntmps6
  go_wp2_with fail
  rw [← hW]
  refine (awake12_any H _).mono ?_
  rintro e w1 ⟨rfl, hb⟩
  have HBq := Lib.hid (HB.out.trans (hb.mono HB.out.size))
  clear HB
  have HB := HBq
  clear HBq
  have QAq := Lib.hid (QA.out.next hb)
  clear QA
  have QA := QAq
  clear QAq
  have MAq := Lib.hid (MA.out.next hb)
  clear MA
  have MA := MAq
  clear MAq
  have BSq := Lib.hid (BS.out.next hb)
  clear BS
  have BS := BSq
  clear BSq
  clear hb
  clear hW
  go_wp2_with fail
  refine (refShortQ_b QA.out E0.out).mono ?_
  rintro e w2 ⟨rfl, hb⟩
  have HBq := Lib.hid (HB.out.trans (hb.mono HB.out.size))
  clear HB
  have HB := HBq
  clear HBq
  have QAq := Lib.hid (QA.out.next hb)
  clear QA
  have QA := QAq
  clear QAq
  have MAq := Lib.hid (MA.out.next hb)
  clear MA
  have MA := MAq
  clear MAq
  have BSq := Lib.hid (BS.out.next hb)
  clear BS
  have BS := BSq
  clear BSq
  clear hb
  go_wp2
  go_ret
  exact ⟨rfl, HB.out⟩

set_option maxRecDepth 100000 in
set_option maxHeartbeats 8000000 in
theorem queueAdds_l1 (H : QueueOk) (A : Option Addr) (n c : Nat) (l : Qu) (s : Sp) (AN : Option Addr) (mN cN : Nat) (ns : List Int) (now : Int) (w : World) (hl : QAsk w A n c l) (hs : SAsk s) (hm : MAsk w AN mN cN ns) (hn : I64 now) (h0 : shortQ l = true) (h20 : 20 < mN) :
    Calls Try.prog 6 #[.slice A n c, .agg #[.int .i64 s.nodes, .int .i64 s.cores, .int .i64 s.gpus, .string s.tag, .bool s.whole, .int .i64 s.long, .int .i64 s.prio], .slice AN mN cN, .int .i64 now] w fun e w' => e = .returned (.bool true) ∧ Below w.heap.size w w' := by
  obtain ⟨W, hW⟩ : ∃ W, W = w.alloc (spO s) := ⟨_, rfl⟩
  have BS : Hid (BoxS W w.heap.size s) := Lib.hid (by rw [hW]; exact box_new w s)
  have hb0 : Below w.heap.size w W := by rw [hW]; exact (Below.refl _ _).alloc (Nat.le_refl _) _
  have HB := Lib.hid hb0
  have QA := Lib.hid (hl.next hb0)
  have MA := Lib.hid (hm.next hb0)
  have HS := Lib.hid hs
  have IN := Lib.hid hn
  have HL := Lib.hid hl.reads.len
  have hml := hm.few
  unfold maxLen at hml
  unfold spO at hW
  clear hb0 hl hs hm hn
  have E0 := Lib.hid h0
  have d20 : decide ((20 : Int) < (mN : Int)) = true := by simp; omega
  clear h0 h20
  go_enter Try.func6, Try.ntmps6
  go_wp2_with fail
  rw [← hW]
  refine (awake12_any H _).mono ?_
  rintro e w1 ⟨rfl, hb⟩
  have HBq := Lib.hid (HB.out.trans (hb.mono HB.out.size))
  clear HB
  have HB := HBq
  clear HBq
  have QAq := Lib.hid (QA.out.next hb)
  clear QA
  have QA := QAq
  clear QAq
  have MAq := Lib.hid (MA.out.next hb)
  clear MA
  have MA := MAq
  clear MAq
  have BSq := Lib.hid (BS.out.next hb)
  clear BS
  have BS := BSq
  clear BSq
  clear hb
  clear hW
  go_wp2_with fail
  refine (refShortQ_b QA.out E0.out).mono ?_
  rintro e w2 ⟨rfl, hb⟩
  have HBq := Lib.hid (HB.out.trans (hb.mono HB.out.size))
  clear HB
  have HB := HBq
  clear HBq
  have QAq := Lib.hid (QA.out.next hb)
  clear QA
  have QA := QAq
  clear QAq
  have MAq := Lib.hid (MA.out.next hb)
  clear MA
  have MA := MAq
  clear MAq
  have BSq := Lib.hid (BS.out.next hb)
  clear BS
  have BS := BSq
  clear BSq
  clear hb
  go_wp2
  go_ret
  exact ⟨rfl, HB.out⟩

set_option maxRecDepth 100000 in
set_option maxHeartbeats 8000000 in
theorem queueAdds_no (H : QueueOk) (A : Option Addr) (n c : Nat) (l : Qu) (s : Sp) (AN : Option Addr) (mN cN : Nat) (ns : List Int) (now : Int) (w : World) (hl : QAsk w A n c l) (hs : SAsk s) (hm : MAsk w AN mN cN ns) (hn : I64 now) (h0 : shortQ l = true) (h20 : ¬ 20 < mN) (er : Int) (he : addQE l s ns now = er) (hz : er ≠ 0) :
    Calls Try.prog 6 #[.slice A n c, .agg #[.int .i64 s.nodes, .int .i64 s.cores, .int .i64 s.gpus, .string s.tag, .bool s.whole, .int .i64 s.long, .int .i64 s.prio], .slice AN mN cN, .int .i64 now] w fun e w' => e = .returned (.bool true) ∧ Below w.heap.size w w' := by
  obtain ⟨W, hW⟩ : ∃ W, W = w.alloc (spO s) := ⟨_, rfl⟩
  have BS : Hid (BoxS W w.heap.size s) := Lib.hid (by rw [hW]; exact box_new w s)
  have hb0 : Below w.heap.size w W := by rw [hW]; exact (Below.refl _ _).alloc (Nat.le_refl _) _
  have HB := Lib.hid hb0
  have QA := Lib.hid (hl.next hb0)
  have MA := Lib.hid (hm.next hb0)
  have HS := Lib.hid hs
  have IN := Lib.hid hn
  have HL := Lib.hid hl.reads.len
  have hml := hm.few
  unfold maxLen at hml
  unfold spO at hW
  clear hb0 hl hs hm hn
  have E0 := Lib.hid h0
  have HSQ := Lib.hid (of_decide_eq_true h0 : ShortQ l)
  have F0 := Lib.hid (HSQ.out.few)
  have d20 : decide ((20 : Int) < (mN : Int)) = false := by simp; omega
  have hmm : mN ≤ 100 := by omega
  have hn14 : n ≤ 14 := by rw [← HL.out]; exact HSQ.out.1
  clear h0 h20
  have EQ := Lib.hid (addq_no (l := l) (s := s) (ns := ns) (now := now) (by rw [he]; exact hz)).1
  have EN := Lib.hid (addq_no (l := l) (s := s) (ns := ns) (now := now) (by rw [he]; exact hz)).2
  have EE := Lib.hid he
  have dz : (er != 0) = true := by rw [bne_iff_ne]; exact hz
  clear he hz
  go_enter Try.func6, Try.ntmps6
  go_wp2_with fail
  rw [← hW]
  refine (awake12_any H _).mono ?_
  rintro e w1 ⟨rfl, hb⟩
  have HBq := Lib.hid (HB.out.trans (hb.mono HB.out.size))
  clear HB
  have HB := HBq
  clear HBq
  have QAq := Lib.hid (QA.out.next hb)
  clear QA
  have QA := QAq
  clear QAq
  have MAq := Lib.hid (MA.out.next hb)
  clear MA
  have MA := MAq
  clear MAq
  have BSq := Lib.hid (BS.out.next hb)
  clear BS
  have BS := BSq
  clear BSq
  clear hb
  clear hW
  go_wp2_with fail
  refine (refShortQ_b QA.out E0.out).mono ?_
  rintro e w2 ⟨rfl, hb⟩
  have HBq := Lib.hid (HB.out.trans (hb.mono HB.out.size))
  clear HB
  have HB := HBq
  clear HBq
  have QAq := Lib.hid (QA.out.next hb)
  clear QA
  have QA := QAq
  clear QAq
  have MAq := Lib.hid (MA.out.next hb)
  clear MA
  have MA := MAq
  clear MAq
  have BSq := Lib.hid (BS.out.next hb)
  clear BS
  have BS := BSq
  clear BSq
  clear hb
  have b0 := BS.out.c0
  have b1 := BS.out.c1
  have b2 := BS.out.c2
  have b3 := BS.out.c3
  have b4 := BS.out.c4
  have b5 := BS.out.c5
  have b6 := BS.out.c6
  go_wp2_with fail
  refine (h12_add H QA.out F0.out HS.out MA.out hmm IN.out EQ.out EN.out EE.out).mono ?_
  rintro e w3 ⟨⟨A1, n1, c1, rfl, hq1⟩, hb⟩
  have HBq := Lib.hid (HB.out.trans (hb.mono HB.out.size))
  clear HB
  have HB := HBq
  clear HBq
  have QAq := Lib.hid (QA.out.next hb)
  clear QA
  have QA := QAq
  clear QAq
  have MAq := Lib.hid (MA.out.next hb)
  clear MA
  have MA := MAq
  clear MAq
  have BSq := Lib.hid (BS.out.next hb)
  clear BS
  have BS := BSq
  clear BSq
  clear hb
  have Q1 := Lib.hid hq1
  clear hq1
  clear b0 b1 b2 b3 b4 b5 b6
  obtain rfl : n1 = n := Q1.out.reads.len.symm.trans HL.out
  go_wp2_with fail
  refine (refSameQ_eq Q1.out QA.out).mono ?_
  rintro e w4 ⟨rfl, hb⟩
  have HBq := Lib.hid (HB.out.trans (hb.mono HB.out.size))
  clear HB
  have HB := HBq
  clear HBq
  have QAq := Lib.hid (QA.out.next hb)
  clear QA
  have QA := QAq
  clear QAq
  have MAq := Lib.hid (MA.out.next hb)
  clear MA
  have MA := MAq
  clear MAq
  have BSq := Lib.hid (BS.out.next hb)
  clear BS
  have BS := BSq
  clear BSq
  have Q1q := Lib.hid (Q1.out.next hb)
  clear Q1
  have Q1 := Q1q
  clear Q1q
  clear hb
  go_wp2
  go_ret
  exact ⟨rfl, HB.out⟩

set_option maxRecDepth 100000 in
set_option maxHeartbeats 40000000 in
theorem queueAdds_yes (H : QueueOk) (A : Option Addr) (n c : Nat) (l : Qu) (s : Sp) (AN : Option Addr) (mN cN : Nat) (ns : List Int) (now : Int) (w : World) (hl : QAsk w A n c l) (hs : SAsk s) (hm : MAsk w AN mN cN ns) (hn : I64 now) (h0 : shortQ l = true) (h20 : ¬ 20 < mN) (he : addQE l s ns now = 0) :
    Calls Try.prog 6 #[.slice A n c, .agg #[.int .i64 s.nodes, .int .i64 s.cores, .int .i64 s.gpus, .string s.tag, .bool s.whole, .int .i64 s.long, .int .i64 s.prio], .slice AN mN cN, .int .i64 now] w fun e w' => e = .returned (.bool true) ∧ Below w.heap.size w w' := by
  obtain ⟨W, hW⟩ : ∃ W, W = w.alloc (spO s) := ⟨_, rfl⟩
  have BS : Hid (BoxS W w.heap.size s) := Lib.hid (by rw [hW]; exact box_new w s)
  have hb0 : Below w.heap.size w W := by rw [hW]; exact (Below.refl _ _).alloc (Nat.le_refl _) _
  have HB := Lib.hid hb0
  have QA := Lib.hid (hl.next hb0)
  have MA := Lib.hid (hm.next hb0)
  have HS := Lib.hid hs
  have IN := Lib.hid hn
  have HL := Lib.hid hl.reads.len
  have hml := hm.few
  unfold maxLen at hml
  unfold spO at hW
  clear hb0 hl hs hm hn
  have E0 := Lib.hid h0
  have HSQ := Lib.hid (of_decide_eq_true h0 : ShortQ l)
  have F0 := Lib.hid (HSQ.out.few)
  have d20 : decide ((20 : Int) < (mN : Int)) = false := by simp; omega
  have hmm : mN ≤ 100 := by omega
  have hn14 : n ≤ 14 := by rw [← HL.out]; exact HSQ.out.1
  clear h0 h20
  have EQ0 := addq_yes he
  have hgt := add_get he
  have hrd := add_ready he
  have hrt := add_right he
  obtain ⟨hag, hal, hlt64, hid30⟩ := add_parts he
  have hpos := next_pos hag.1
  have hkj : addJ l s ns now = ⟨nextId l, s, ns, 0, now, 0, 0⟩ := rfl
  rw [hkj] at EQ0 hgt hrd hrt
  obtain ⟨k, hk⟩ : ∃ k, nextId l = k := ⟨_, rfl⟩
  rw [hk] at EQ0 hgt hrd hrt hpos hid30
  obtain ⟨r, hr⟩ : ∃ r, l ++ [(⟨k, s, ns, 0, now, 0, 0⟩ : Jb)] = r := ⟨_, rfl⟩
  rw [hr] at EQ0 hgt hrd hrt
  have EQ := Lib.hid EQ0.1
  have EN := Lib.hid EQ0.2
  have EE := Lib.hid he
  have HR := Lib.hid hr
  have GT := Lib.hid hgt.2
  have GD : Hid (decide (GetQ r k) = true) := Lib.hid (decide_eq_true hgt.1)
  have RR : Hid (rightQ r = true) := Lib.hid (decide_eq_true hrt)
  have F1 := Lib.hid hrt.few
  have IK : Hid (I64 k) := Lib.hid (by unfold I64; omega)
  have HAL := Lib.hid hal
  have HRL := Lib.hid hag.1
  have HRN : Hid (r.length = l.length + 1) := Lib.hid (by rw [← hr]; simp)
  obtain ⟨rr, hrr⟩ : ∃ x, readyQ r = x := ⟨_, rfl⟩
  rw [hrr] at hrd
  have ER := Lib.hid hrr
  have LRR : Hid (rr.length ≤ 100) := Lib.hid (by rw [← hrr]; exact Nat.le_trans readyQ_len F1.out.1)
  obtain ⟨dn, hdn⟩ : ∃ b, decide (∀ q, q < mN → (jOf l (ns.getD q 0)).state = 3) = b := ⟨_, rfl⟩
  have HDN := Lib.hid hdn
  have HFN : Hid (decide (k ∈ rr) = dn) := Lib.hid (by
    rw [← hdn]
    refine decide_eq_decide.2 (hrd.trans ?_)
    rw [MA.out.reads.1])
  have EQS : ∀ X : World, _ := fun X => run_eqS s.nodes s.cores s.gpus s.nodes s.cores s.gpus s.long s.prio s.long s.prio s.tag s.tag s.whole s.whole X
  have hsq : sameSp ⟨s.nodes, s.cores, s.gpus, s.tag, s.whole, s.long, s.prio⟩ ⟨s.nodes, s.cores, s.gpus, s.tag, s.whole, s.long, s.prio⟩ = true := sameSp_iff.2 rfl
  rw [hsq] at EQS
  clear he EQ0 hgt hrd hrt hag hal hkj hk hr hpos hid30 hrr hdn hsq hlt64
  go_enter Try.func6, Try.ntmps6
  go_wp2_with fail
  rw [← hW]
  refine (awake12_any H _).mono ?_
  rintro e w1 ⟨rfl, hb⟩
  have HBq := Lib.hid (HB.out.trans (hb.mono HB.out.size))
  clear HB
  have HB := HBq
  clear HBq
  have QAq := Lib.hid (QA.out.next hb)
  clear QA
  have QA := QAq
  clear QAq
  have MAq := Lib.hid (MA.out.next hb)
  clear MA
  have MA := MAq
  clear MAq
  have BSq := Lib.hid (BS.out.next hb)
  clear BS
  have BS := BSq
  clear BSq
  clear hb
  clear hW
  go_wp2_with fail
  refine (refShortQ_b QA.out E0.out).mono ?_
  rintro e w2 ⟨rfl, hb⟩
  have HBq := Lib.hid (HB.out.trans (hb.mono HB.out.size))
  clear HB
  have HB := HBq
  clear HBq
  have QAq := Lib.hid (QA.out.next hb)
  clear QA
  have QA := QAq
  clear QAq
  have MAq := Lib.hid (MA.out.next hb)
  clear MA
  have MA := MAq
  clear MAq
  have BSq := Lib.hid (BS.out.next hb)
  clear BS
  have BS := BSq
  clear BSq
  clear hb
  have b0 := BS.out.c0
  have b1 := BS.out.c1
  have b2 := BS.out.c2
  have b3 := BS.out.c3
  have b4 := BS.out.c4
  have b5 := BS.out.c5
  have b6 := BS.out.c6
  go_wp2_with fail
  refine (h12_add H QA.out F0.out HS.out MA.out hmm IN.out EQ.out EN.out EE.out).mono ?_
  rintro e w3 ⟨⟨A1, n1, c1, rfl, hq1⟩, hb⟩
  have HBq := Lib.hid (HB.out.trans (hb.mono HB.out.size))
  clear HB
  have HB := HBq
  clear HBq
  have QAq := Lib.hid (QA.out.next hb)
  clear QA
  have QA := QAq
  clear QAq
  have MAq := Lib.hid (MA.out.next hb)
  clear MA
  have MA := MAq
  clear MAq
  have BSq := Lib.hid (BS.out.next hb)
  clear BS
  have BS := BSq
  clear BSq
  clear hb
  have Q1 := Lib.hid hq1
  clear hq1
  clear b0 b1 b2 b3 b4 b5 b6
  have hn1 : n1 = n + 1 := by have h1 := Q1.out.reads.len; rw [HRN.out, HL.out] at h1; exact h1.symm
  have dn1 : ((n1 : Int) != (n : Int) + 1) = false := by rw [bne_eq_false_iff_eq]; omega
  have hc1 : n ≤ c1 := by have := Q1.out.cap; omega
  have hn1' : n ≤ n1 := by omega
  have HC1 := Lib.hid hc1
  have hcn : ∀ X, QAsk X A1 n1 c1 r → QAsk X A1 n c1 l := fun X h => ⟨by
      have h1 := h.reads.cut (k := n) (by omega)
      rw [← HR.out, List.take_left' HL.out] at h1; exact h1, h.nil, by omega, by have := h.few; omega⟩
  have HCN := Lib.hid hcn
  clear hcn hn1
  go_wp2_with fail
  refine (refSameQ_eq (HCN.out _ Q1.out) QA.out).mono ?_
  rintro e w4 ⟨rfl, hb⟩
  have HBq := Lib.hid (HB.out.trans (hb.mono HB.out.size))
  clear HB
  have HB := HBq
  clear HBq
  have QAq := Lib.hid (QA.out.next hb)
  clear QA
  have QA := QAq
  clear QAq
  have MAq := Lib.hid (MA.out.next hb)
  clear MA
  have MA := MAq
  clear MAq
  have BSq := Lib.hid (BS.out.next hb)
  clear BS
  have BS := BSq
  clear BSq
  have Q1q := Lib.hid (Q1.out.next hb)
  clear Q1
  have Q1 := Q1q
  clear Q1q
  clear hb
  go_wp2_with fail
  refine (h12_right H Q1.out F1.out RR.out).mono ?_
  rintro e w5 ⟨rfl, hb⟩
  have HBq := Lib.hid (HB.out.trans (hb.mono HB.out.size))
  clear HB
  have HB := HBq
  clear HBq
  have QAq := Lib.hid (QA.out.next hb)
  clear QA
  have QA := QAq
  clear QAq
  have MAq := Lib.hid (MA.out.next hb)
  clear MA
  have MA := MAq
  clear MAq
  have BSq := Lib.hid (BS.out.next hb)
  clear BS
  have BS := BSq
  clear BSq
  have Q1q := Lib.hid (Q1.out.next hb)
  clear Q1
  have Q1 := Q1q
  clear Q1q
  clear hb
  go_wp2_with fail
  refine (h12_get H Q1.out F1.out IK.out GT.out GD.out).mono ?_
  rintro e w6 ⟨⟨A2, m2, c2, rfl, hj2⟩, hb⟩
  have HBq := Lib.hid (HB.out.trans (hb.mono HB.out.size))
  clear HB
  have HB := HBq
  clear HBq
  have QAq := Lib.hid (QA.out.next hb)
  clear QA
  have QA := QAq
  clear QAq
  have MAq := Lib.hid (MA.out.next hb)
  clear MA
  have MA := MAq
  clear MAq
  have BSq := Lib.hid (BS.out.next hb)
  clear BS
  have BS := BSq
  clear BSq
  have Q1q := Lib.hid (Q1.out.next hb)
  clear Q1
  have Q1 := Q1q
  clear Q1q
  clear hb
  have J2 := Lib.hid hj2
  clear hj2
  have hb := Below.alloc (Below.refl w6.heap.size w6) (Nat.le_refl _) (.cells #[.int .i64 k, .int .i64 s.nodes, .int .i64 s.cores, .int .i64 s.gpus, .string s.tag, .bool s.whole, .int .i64 s.long, .int .i64 s.prio, .slice A2 m2 c2, .int .i64 0, .int .i64 now, .int .i64 0, .int .i64 0] 30)
  have B2q := Lib.hid (boxJ_new w6 ⟨k, s, ns, 0, now, 0, 0⟩ A2 m2 c2)
  have HBq := Lib.hid (HB.out.trans (hb.mono HB.out.size))
  clear HB
  have HB := HBq
  clear HBq
  have QAq := Lib.hid (QA.out.next hb)
  clear QA
  have QA := QAq
  clear QAq
  have MAq := Lib.hid (MA.out.next hb)
  clear MA
  have MA := MAq
  clear MAq
  have BSq := Lib.hid (BS.out.next hb)
  clear BS
  have BS := BSq
  clear BSq
  have Q1q := Lib.hid (Q1.out.next hb)
  clear Q1
  have Q1 := Q1q
  clear Q1q
  have J2q := Lib.hid (J2.out.next hb)
  clear J2
  have J2 := J2q
  clear J2q
  clear hb
  have B2 := B2q
  clear B2q
  obtain ⟨V, hV⟩ : ∃ V, V = (w6.alloc (.cells #[.int .i64 k, .int .i64 s.nodes, .int .i64 s.cores, .int .i64 s.gpus, .string s.tag, .bool s.whole, .int .i64 s.long, .int .i64 s.prio, .slice A2 m2 c2, .int .i64 0, .int .i64 now, .int .i64 0, .int .i64 0] 30)) := ⟨_, rfl⟩
  obtain ⟨g, hg⟩ : ∃ g, w6.heap.size = g := ⟨_, rfl⟩
  rw [hg] at B2
  have B2q : Hid (BoxJ V g ⟨k, s, ns, 0, now, 0, 0⟩ A2 m2 c2) := Lib.hid (by rw [hV]; exact B2.out)
  clear B2
  have B2 := B2q
  clear B2q
  rw [← hV] at QA MA BS Q1 J2 HB
  go_wp2
  try rw [hg]
  rw [← hV]
  have HGQ := Lib.hid hg
  clear hg hV
  go_loopw [14, 15] (fun dv iv wr => ∃ i : Nat, i ≤ mN ∧ iv = .int .i64 i ∧ dv = .bool (decide (∀ q, q < i → (jOf l (ns.getD q 0)).state = 3)) ∧ Below V.heap.size V wr) (fun _ iv _ => mN - (intOf iv).toNat)
  case atStart => exact ⟨0, Nat.zero_le _, rfl, by simp, Below.refl _ _⟩
  case round =>
    obtain ⟨i, hi, rfl, hdv, hb⟩ := hrel
    have HV0 := Lib.hid hb
    have HBq := Lib.hid (HB.out.trans (hb.mono HB.out.size))
    clear HB
    have HB := HBq
    clear HBq
    have QAq := Lib.hid (QA.out.next hb)
    clear QA
    have QA := QAq
    clear QAq
    have MAq := Lib.hid (MA.out.next hb)
    clear MA
    have MA := MAq
    clear MAq
    have BSq := Lib.hid (BS.out.next hb)
    clear BS
    have BS := BSq
    clear BSq
    have Q1q := Lib.hid (Q1.out.next hb)
    clear Q1
    have Q1 := Q1q
    clear Q1q
    have J2q := Lib.hid (J2.out.next hb)
    clear J2
    have J2 := J2q
    clear J2q
    have B2q := Lib.hid (B2.out.next hb)
    clear B2
    have B2 := B2q
    clear B2q
    clear hb
    obtain ⟨dv, hdd⟩ : ∃ b, decide (∀ q, q < i → (jOf l (ns.getD q 0)).state = 3) = b := ⟨_, rfl⟩
    rw [hdd] at hdv
    subst hdv
    have HDD := Lib.hid hdd
    clear hdd
    by_cases hlt : i < mN
    · obtain ⟨b, off, rfl, hb1, hc⟩ := MA.out.reads.one hlt
      obtain ⟨y, hy⟩ : ∃ y, ns.getD i 0 = y := ⟨_, rfl⟩
      rw [hy] at hc
      have hil : i < ns.length := by rw [MA.out.reads.1]; exact hlt
      have hhas := HAL.out i hil
      rw [hy] at hhas
      have IY : Hid (I64 y) := Lib.hid (by rw [← hy]; exact MA.out.int _ (mem_getQ hil))
      have GD2 : Hid (decide (GetQ l y) = true) := Lib.hid (decide_eq_true ⟨HRL.out, hhas⟩)
      obtain ⟨x, hx⟩ : ∃ x, jOf l y = x := ⟨_, rfl⟩
      have GT2 : Hid (getQ l y = x) := Lib.hid (by unfold getQ; rw [if_pos ⟨HRL.out, hhas⟩]; exact hx)
      have HX : Hid ((jOf l (ns.getD i 0)).state = x.state) := Lib.hid (by rw [hy, hx])
      clear hy hhas hx hb1 hil
      go_wp2_with fail
      refine (h12_get H QA.out F0.out IY.out GT2.out GD2.out).mono ?_
      rintro e w7 ⟨⟨A3, m3, c3, rfl, hj3⟩, hb⟩
      have HBq := Lib.hid (HB.out.trans (hb.mono HB.out.size))
      clear HB
      have HB := HBq
      clear HBq
      have HV0q := Lib.hid (HV0.out.trans (hb.mono HV0.out.size))
      clear HV0
      have HV0 := HV0q
      clear HV0q
      have QAq := Lib.hid (QA.out.next hb)
      clear QA
      have QA := QAq
      clear QAq
      have MAq := Lib.hid (MA.out.next hb)
      clear MA
      have MA := MAq
      clear MAq
      have BSq := Lib.hid (BS.out.next hb)
      clear BS
      have BS := BSq
      clear BSq
      have Q1q := Lib.hid (Q1.out.next hb)
      clear Q1
      have Q1 := Q1q
      clear Q1q
      have J2q := Lib.hid (J2.out.next hb)
      clear J2
      have J2 := J2q
      clear J2q
      have B2q := Lib.hid (B2.out.next hb)
      clear B2
      have B2 := B2q
      clear B2q
      clear hb
      have J3 := Lib.hid hj3
      clear hj3 hc
      have hb := Below.alloc (Below.refl w7.heap.size w7) (Nat.le_refl _) (.cells #[.int .i64 x.id, .int .i64 x.spec.nodes, .int .i64 x.spec.cores, .int .i64 x.spec.gpus, .string x.spec.tag, .bool x.spec.whole, .int .i64 x.spec.long, .int .i64 x.spec.prio, .slice A3 m3 c3, .int .i64 x.state, .int .i64 x.came, .int .i64 x.frm, .int .i64 x.to] 30)
      have B3q := Lib.hid (boxJ_new w7 x A3 m3 c3)
      have HBq := Lib.hid (HB.out.trans (hb.mono HB.out.size))
      clear HB
      have HB := HBq
      clear HBq
      have HV0q := Lib.hid (HV0.out.trans (hb.mono HV0.out.size))
      clear HV0
      have HV0 := HV0q
      clear HV0q
      have QAq := Lib.hid (QA.out.next hb)
      clear QA
      have QA := QAq
      clear QAq
      have MAq := Lib.hid (MA.out.next hb)
      clear MA
      have MA := MAq
      clear MAq
      have BSq := Lib.hid (BS.out.next hb)
      clear BS
      have BS := BSq
      clear BSq
      have Q1q := Lib.hid (Q1.out.next hb)
      clear Q1
      have Q1 := Q1q
      clear Q1q
      have J2q := Lib.hid (J2.out.next hb)
      clear J2
      have J2 := J2q
      clear J2q
      have B2q := Lib.hid (B2.out.next hb)
      clear B2
      have B2 := B2q
      clear B2q
      have J3q := Lib.hid (J3.out.next hb)
      clear J3
      have J3 := J3q
      clear J3q
      clear hb
      have B3 := B3q
      clear B3q
      have s9 := B3.out.c9
      cases dv with
      | true =>
        have hall := of_decide_eq_true HDD.out
        by_cases x3 : x.state = 3
        · have d3 : (x.state == 3) = true := by rw [beq_iff_eq]; exact x3
          have DD2 : Hid (decide (∀ q, q < i + 1 → (jOf l (ns.getD q 0)).state = 3) = true) := Lib.hid (decide_eq_true fun q hq => by
              by_cases e : q = i
              · subst e; rw [HX.out]; exact x3
              · exact hall q (by omega))
          clear hall x3
          go_wp2
          go_roundw
          case rel => exact ⟨i + 1, by omega, by go_num, by rw [DD2.out], HV0.out⟩
          case measure => simp [intOf]; omega
        · have d3 : (x.state == 3) = false := by rw [beq_eq_false_iff_ne]; exact x3
          have DD2 : Hid (decide (∀ q, q < i + 1 → (jOf l (ns.getD q 0)).state = 3) = false) := Lib.hid (decide_eq_false fun h => x3 (by rw [← HX.out]; exact h i (by omega)))
          clear hall x3
          go_wp2
          go_roundw
          case rel => exact ⟨i + 1, by omega, by go_num, by rw [DD2.out], HV0.out⟩
          case measure => simp [intOf]; omega
      | false =>
        have DD2 : Hid (decide (∀ q, q < i + 1 → (jOf l (ns.getD q 0)).state = 3) = false) := Lib.hid (decide_eq_false fun h => of_decide_eq_false HDD.out fun q hq => h q (by omega))
        go_wp2
        go_roundw
        case rel => exact ⟨i + 1, by omega, by go_num, by rw [DD2.out], HV0.out⟩
        case measure => simp [intOf]; omega
    · have hii : i = mN := by omega
      have HDV : Hid (dv = dn) := Lib.hid (by rw [← HDN.out, ← HDD.out, hii])
      clear hii
      go_wp2_with fail
      refine (h12_ready H Q1.out F1.out ER.out).mono ?_
      rintro e w7 ⟨⟨A8, c8, rfl, hr8, hnil8, hc8⟩, hb⟩
      have HBq := Lib.hid (HB.out.trans (hb.mono HB.out.size))
      clear HB
      have HB := HBq
      clear HBq
      have QAq := Lib.hid (QA.out.next hb)
      clear QA
      have QA := QAq
      clear QAq
      have MAq := Lib.hid (MA.out.next hb)
      clear MA
      have MA := MAq
      clear MAq
      have BSq := Lib.hid (BS.out.next hb)
      clear BS
      have BS := BSq
      clear BSq
      have Q1q := Lib.hid (Q1.out.next hb)
      clear Q1
      have Q1 := Q1q
      clear Q1q
      have J2q := Lib.hid (J2.out.next hb)
      clear J2
      have J2 := J2q
      clear J2q
      have B2q := Lib.hid (B2.out.next hb)
      clear B2
      have B2 := B2q
      clear B2q
      clear hb
      have R8 := Lib.hid hr8
      clear hr8 hnil8 hc8
      go_wp2
      go_loop [19, 20] (fun fv iv => ∃ q : Nat, q ≤ rr.length ∧ iv = .int .i64 q ∧ fv = .bool (decide (k ∈ rr.take q))) (fun _ iv => rr.length - (intOf iv).toNat)
      case atStart => exact ⟨0, Nat.zero_le _, rfl, by simp⟩
      case round =>
        obtain ⟨q, hq, rfl, hfv⟩ := hrel
        obtain ⟨fv, hff⟩ : ∃ b, decide (k ∈ rr.take q) = b := ⟨_, rfl⟩
        rw [hff] at hfv
        subst hfv
        have HFF := Lib.hid hff
        clear hff
        have hrl := LRR.out
        by_cases hlq : q < rr.length
        · have HTS : Hid (rr.take (q + 1) = rr.take q ++ [rr.getD q 0]) := Lib.hid (by rw [List.take_succ_eq_append_getElem hlq, List.getD, List.getElem?_eq_getElem hlq]; rfl)
          cases fv with
          | true =>
            have FF2 : Hid (decide (k ∈ rr.take (q + 1)) = true) := Lib.hid (decide_eq_true (by rw [HTS.out, List.mem_append]; exact .inl (of_decide_eq_true HFF.out)))
            go_wp2
            go_round
            case rel => exact ⟨q + 1, by omega, by go_num, by rw [FF2.out]⟩
            case measure => simp [intOf]; omega
          | false =>
            obtain ⟨b2, off2, rfl, _, hc2⟩ := R8.out.one hlq
            obtain ⟨zz, hzz⟩ : ∃ y, rr.getD q 0 = y := ⟨_, rfl⟩
            rw [hzz] at hc2 HTS
            clear hzz
            by_cases hzk : zz = k
            · have dk : (zz == k) = true := by rw [beq_iff_eq]; exact hzk
              have FF2 : Hid (decide (k ∈ rr.take (q + 1)) = true) := Lib.hid (decide_eq_true (by rw [HTS.out, List.mem_append, List.mem_singleton]; exact .inr hzk.symm))
              clear hzk
              go_wp2
              go_round
              case rel => exact ⟨q + 1, by omega, by go_num, by rw [FF2.out]⟩
              case measure => simp [intOf]; omega
            · have dk : (zz == k) = false := by rw [beq_eq_false_iff_ne]; exact hzk
              have FF2 : Hid (decide (k ∈ rr.take (q + 1)) = false) := Lib.hid (decide_eq_false (by
                rw [HTS.out, List.mem_append, List.mem_singleton]
                rintro (h | h)
                · exact of_decide_eq_false HFF.out h
                · exact hzk h.symm))
              clear hzk
              go_wp2
              go_round
              case rel => exact ⟨q + 1, by omega, by go_num, by rw [FF2.out]⟩
              case measure => simp [intOf]; omega
        · have hqe : q = rr.length := by omega
          have HFV : Hid (fv = dn) := Lib.hid (by rw [← HFN.out, ← HFF.out, hqe, List.take_length])
          clear hqe
          have hfd := HFV.out
          have hdd2 := HDV.out
          subst hfd
          subst hdd2
          have q0 := B2.out.c0
          have q1 := B2.out.c1
          have q2 := B2.out.c2
          have q3 := B2.out.c3
          have q4 := B2.out.c4
          have q5 := B2.out.c5
          have q6 := B2.out.c6
          have q7 := B2.out.c7
          have q8 := B2.out.c8
          have q9 := B2.out.c9
          have q10 := B2.out.c10
          have q11 := B2.out.c11
          have q12 := B2.out.c12
          simp only at q0 q8 q9 q10 q11 q12
          have b0 := BS.out.c0
          have b1 := BS.out.c1
          have b2 := BS.out.c2
          have b3 := BS.out.c3
          have b4 := BS.out.c4
          have b5 := BS.out.c5
          have b6 := BS.out.c6
          go_wp2_with fail
          refine (ri_same J2.out.reads MA.out.reads J2.out.few MA.out.few (same_self ns)).mono ?_
          rintro e w9 ⟨rfl, hb⟩
          have HBq := Lib.hid (HB.out.trans (hb.mono HB.out.size))
          clear HB
          have HB := HBq
          clear HBq
          have QAq := Lib.hid (QA.out.next hb)
          clear QA
          have QA := QAq
          clear QAq
          have MAq := Lib.hid (MA.out.next hb)
          clear MA
          have MA := MAq
          clear MAq
          have BSq := Lib.hid (BS.out.next hb)
          clear BS
          have BS := BSq
          clear BSq
          have Q1q := Lib.hid (Q1.out.next hb)
          clear Q1
          have Q1 := Q1q
          clear Q1q
          have J2q := Lib.hid (J2.out.next hb)
          clear J2
          have J2 := J2q
          clear J2q
          have B2q := Lib.hid (B2.out.next hb)
          clear B2
          have B2 := B2q
          clear B2q
          clear hb
          clear q0 q1 q2 q3 q4 q5 q6 q7 q8 q9 q10 q11 q12 b0 b1 b2 b3 b4 b5 b6
          go_wp2
          go_ret
          exact ⟨rfl, HB.out⟩


theorem queueAdds_walk (H : QueueOk) (A : Option Addr) (n c : Nat) (l : Qu) (s : Sp) (AN : Option Addr) (mN cN : Nat) (ns : List Int) (now : Int) (w : World) (hl : QAsk w A n c l) (hs : SAsk s) (hm : MAsk w AN mN cN ns) (hn : I64 now) : Calls Try.prog 6 #[.slice A n c, .agg #[.int .i64 s.nodes, .int .i64 s.cores, .int .i64 s.gpus, .string s.tag, .bool s.whole, .int .i64 s.long, .int .i64 s.prio], .slice AN mN cN, .int .i64 now] w fun e w' => e = .returned (.bool true) ∧ Below w.heap.size w w' := by
  cases h0 : shortQ l with
  | false => exact queueAdds_l0 H A n c l s AN mN cN ns now w hl hs hm hn h0
  | true =>
    by_cases h20 : 20 < mN
    · exact queueAdds_l1 H A n c l s AN mN cN ns now w hl hs hm hn h0 h20
    · by_cases he : addQE l s ns now = 0
      · exact queueAdds_yes H A n c l s AN mN cN ns now w hl hs hm hn h0 h20 he
      · exact queueAdds_no H A n c l s AN mN cN ns now w hl hs hm hn h0 h20 _ rfl he

end Go.Proofs.Ytimgdlddfnglaaa
