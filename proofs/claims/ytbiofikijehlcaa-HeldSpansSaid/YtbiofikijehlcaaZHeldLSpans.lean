/- The statement HeldSpans, as a walk over the contracts: of any table and span the call returns true. Written by gen/gen_heldlaws.py. -/
import Derived.Test.YtbiofikijehlcaaMg04
import Derived.Test.YtbiofikijehlcaaMg07
import Derived.Test.YtbiofikijehlcaaZHeldRefJ
namespace Go.Proofs.Ytbiofikijehlcaa
open Go.RowKit

set_option maxRecDepth 100000 in
set_option maxHeartbeats 8000000 in
theorem heldSpans_l0 (H : HeldOk) (A : Option Addr) (n c : Nat) (l : Tb) (a b : Int) (w : World) (hl : TAsk w A n c l) (h0 : shortT l = false) :
    Calls Try.prog 3 #[.slice A n c, .int .i64 a, .int .i64 b] w fun e w' => e = .returned (.bool true) ∧ Below w.heap.size w w' := by
  have HB := Lib.hid (Below.refl w.heap.size w)
  have T0 := Lib.hid hl
  have E0 := Lib.hid h0
  clear hl h0
  go_enter Try.func3, Try.ntmps3
  go_wp2_with fail
  refine (awake10_any H _).mono ?_
  rintro e w1 ⟨rfl, hb⟩
  have HBq := Lib.hid (HB.out.trans (hb.mono HB.out.size))
  clear HB
  have HB := HBq
  clear HBq
  have T0q := Lib.hid (T0.out.next hb)
  clear T0
  have T0 := T0q
  clear T0q
  clear hb
  go_wp2_with fail
  refine (short_b T0.out E0.out).mono ?_
  rintro e w2 ⟨rfl, hb⟩
  have HBq := Lib.hid (HB.out.trans (hb.mono HB.out.size))
  clear HB
  have HB := HBq
  clear HBq
  have T0q := Lib.hid (T0.out.next hb)
  clear T0
  have T0 := T0q
  clear T0q
  clear hb
  go_wp2
  go_ret
  exact ⟨rfl, HB.out⟩

set_option maxRecDepth 100000 in
set_option maxHeartbeats 8000000 in
theorem heldSpans_yes (H : HeldOk) (A : Option Addr) (n c : Nat) (l : Tb) (a b : Int) (w : World) (hl : TAsk w A n c l) (h0 : shortT l = true) :
    Calls Try.prog 3 #[.slice A n c, .int .i64 a, .int .i64 b] w fun e w' => e = .returned (.bool true) ∧ Below w.heap.size w w' := by
  have HB := Lib.hid (Below.refl w.heap.size w)
  have T0 := Lib.hid hl
  have E0 := Lib.hid h0
  have F0 := Lib.hid (short_few' h0)
  have FA0 : (restT l a).length ≤ 100 := (rest_few F0.out a).1
  have FB0 := gone_few F0.out a
  have FC0 := busy_len l a b
  have FD0 : (endsT l a).length ≤ 100 := Nat.le_trans (ends_len l a) F0.out.1
  obtain ⟨r1, e1⟩ : ∃ r, restT l a = r := ⟨_, rfl⟩
  obtain ⟨r2, e2⟩ : ∃ r, goneT l a = r := ⟨_, rfl⟩
  obtain ⟨r3, e3⟩ : ∃ r, busyT l a b = r := ⟨_, rfl⟩
  obtain ⟨r4, e4⟩ : ∃ r, endsT l a = r := ⟨_, rfl⟩
  rw [e1] at FA0
  rw [e2] at FB0
  rw [e3] at FC0
  rw [e4] at FD0
  have FA := Lib.hid FA0
  have FB := Lib.hid FB0
  have FC := Lib.hid FC0
  have FD := Lib.hid FD0
  have EA := Lib.hid e1
  have EB := Lib.hid e2
  have EC := Lib.hid e3
  have ED := Lib.hid e4
  clear hl h0 FA0 FB0 FC0 FD0 e1 e2 e3 e4
  go_enter Try.func3, Try.ntmps3
  go_wp2_with fail
  refine (awake10_any H _).mono ?_
  rintro e w1 ⟨rfl, hb⟩
  have HBq := Lib.hid (HB.out.trans (hb.mono HB.out.size))
  clear HB
  have HB := HBq
  clear HBq
  have T0q := Lib.hid (T0.out.next hb)
  clear T0
  have T0 := T0q
  clear T0q
  clear hb
  go_wp2_with fail
  refine (short_b T0.out E0.out).mono ?_
  rintro e w2 ⟨rfl, hb⟩
  have HBq := Lib.hid (HB.out.trans (hb.mono HB.out.size))
  clear HB
  have HB := HBq
  clear HBq
  have T0q := Lib.hid (T0.out.next hb)
  clear T0
  have T0 := T0q
  clear T0q
  clear hb
  go_wp2_with fail
  refine (h10_over H T0.out F0.out EA.out EB.out).mono ?_
  rintro e w3 ⟨⟨A1, c1, B1, d1, rfl, hr1, hs1, ⟨hn1, hc1⟩, ⟨hp1, hd1⟩⟩, hb⟩
  have HBq := Lib.hid (HB.out.trans (hb.mono HB.out.size))
  clear HB
  have HB := HBq
  clear HBq
  have T0q := Lib.hid (T0.out.next hb)
  clear T0
  have T0 := T0q
  clear T0q
  clear hb
  have T1 := Lib.hid (ans_ask hr1 hn1 hc1 (by have := FA.out; unfold maxLen; omega))
  have T2 := Lib.hid (ans_ask hs1 hp1 hd1 (by have := FB.out; unfold maxLen; omega))
  clear hr1 hs1 hn1 hc1 hp1 hd1
  go_wp2_with fail
  refine (refOver_b T0.out EA.out EB.out).mono ?_
  rintro e w4 ⟨⟨A2, c2, B2, d2, rfl, hr2, hs2, ⟨hn2, hc2⟩, ⟨hp2, hd2⟩⟩, hb⟩
  have HBq := Lib.hid (HB.out.trans (hb.mono HB.out.size))
  clear HB
  have HB := HBq
  clear HBq
  have T0q := Lib.hid (T0.out.next hb)
  clear T0
  have T0 := T0q
  clear T0q
  have T1q := Lib.hid (T1.out.next hb)
  clear T1
  have T1 := T1q
  clear T1q
  have T2q := Lib.hid (T2.out.next hb)
  clear T2
  have T2 := T2q
  clear T2q
  clear hb
  have T3 := Lib.hid (ans_ask hr2 hn2 hc2 (by have := FA.out; unfold maxLen; omega))
  have T4 := Lib.hid (ans_ask hs2 hp2 hd2 (by have := FB.out; unfold maxLen; omega))
  clear hr2 hs2 hn2 hc2 hp2 hd2
  go_wp2_with fail
  refine (h10_busy H T0.out F0.out EC.out).mono ?_
  rintro e w5 ⟨⟨A3, c3, rfl, hr3, hnil3, hc3⟩, hb⟩
  have HBq := Lib.hid (HB.out.trans (hb.mono HB.out.size))
  clear HB
  have HB := HBq
  clear HBq
  have T0q := Lib.hid (T0.out.next hb)
  clear T0
  have T0 := T0q
  clear T0q
  have T1q := Lib.hid (T1.out.next hb)
  clear T1
  have T1 := T1q
  clear T1q
  have T2q := Lib.hid (T2.out.next hb)
  clear T2
  have T2 := T2q
  clear T2q
  have T3q := Lib.hid (T3.out.next hb)
  clear T3
  have T3 := T3q
  clear T3q
  have T4q := Lib.hid (T4.out.next hb)
  clear T4
  have T4 := T4q
  clear T4q
  clear hb
  have R3 := Lib.hid hr3
  clear hr3 hnil3 hc3
  go_wp2_with fail
  refine (refBusy_b T0.out EC.out).mono ?_
  rintro e w6 ⟨⟨A4, c4, rfl, hr4⟩, hb⟩
  have HBq := Lib.hid (HB.out.trans (hb.mono HB.out.size))
  clear HB
  have HB := HBq
  clear HBq
  have T0q := Lib.hid (T0.out.next hb)
  clear T0
  have T0 := T0q
  clear T0q
  have T1q := Lib.hid (T1.out.next hb)
  clear T1
  have T1 := T1q
  clear T1q
  have T2q := Lib.hid (T2.out.next hb)
  clear T2
  have T2 := T2q
  clear T2q
  have T3q := Lib.hid (T3.out.next hb)
  clear T3
  have T3 := T3q
  clear T3q
  have T4q := Lib.hid (T4.out.next hb)
  clear T4
  have T4 := T4q
  clear T4q
  have R3q := Lib.hid (R3.out.next hb)
  clear R3
  have R3 := R3q
  clear R3q
  clear hb
  have R4 := Lib.hid hr4
  clear hr4
  go_wp2_with fail
  refine (ri_same R3.out R4.out (by have := FC.out; unfold maxLen; omega) (by have := FC.out; unfold maxLen; omega) (same_self _)).mono ?_
  rintro e w7 ⟨rfl, hb⟩
  have HBq := Lib.hid (HB.out.trans (hb.mono HB.out.size))
  clear HB
  have HB := HBq
  clear HBq
  have T0q := Lib.hid (T0.out.next hb)
  clear T0
  have T0 := T0q
  clear T0q
  have T1q := Lib.hid (T1.out.next hb)
  clear T1
  have T1 := T1q
  clear T1q
  have T2q := Lib.hid (T2.out.next hb)
  clear T2
  have T2 := T2q
  clear T2q
  have T3q := Lib.hid (T3.out.next hb)
  clear T3
  have T3 := T3q
  clear T3q
  have T4q := Lib.hid (T4.out.next hb)
  clear T4
  have T4 := T4q
  clear T4q
  have R3q := Lib.hid (R3.out.next hb)
  clear R3
  have R3 := R3q
  clear R3q
  have R4q := Lib.hid (R4.out.next hb)
  clear R4
  have R4 := R4q
  clear R4q
  clear hb
  go_wp2_with fail
  refine (sameT_b T1.out T3.out (sameT_self _)).mono ?_
  rintro e w8 ⟨rfl, hb⟩
  have HBq := Lib.hid (HB.out.trans (hb.mono HB.out.size))
  clear HB
  have HB := HBq
  clear HBq
  have T0q := Lib.hid (T0.out.next hb)
  clear T0
  have T0 := T0q
  clear T0q
  have T1q := Lib.hid (T1.out.next hb)
  clear T1
  have T1 := T1q
  clear T1q
  have T2q := Lib.hid (T2.out.next hb)
  clear T2
  have T2 := T2q
  clear T2q
  have T3q := Lib.hid (T3.out.next hb)
  clear T3
  have T3 := T3q
  clear T3q
  have T4q := Lib.hid (T4.out.next hb)
  clear T4
  have T4 := T4q
  clear T4q
  have R3q := Lib.hid (R3.out.next hb)
  clear R3
  have R3 := R3q
  clear R3q
  have R4q := Lib.hid (R4.out.next hb)
  clear R4
  have R4 := R4q
  clear R4q
  clear hb
  go_wp2_with fail
  refine (sameT_b T2.out T4.out (sameT_self _)).mono ?_
  rintro e w9 ⟨rfl, hb⟩
  have HBq := Lib.hid (HB.out.trans (hb.mono HB.out.size))
  clear HB
  have HB := HBq
  clear HBq
  have T0q := Lib.hid (T0.out.next hb)
  clear T0
  have T0 := T0q
  clear T0q
  have T1q := Lib.hid (T1.out.next hb)
  clear T1
  have T1 := T1q
  clear T1q
  have T2q := Lib.hid (T2.out.next hb)
  clear T2
  have T2 := T2q
  clear T2q
  have T3q := Lib.hid (T3.out.next hb)
  clear T3
  have T3 := T3q
  clear T3q
  have T4q := Lib.hid (T4.out.next hb)
  clear T4
  have T4 := T4q
  clear T4q
  have R3q := Lib.hid (R3.out.next hb)
  clear R3
  have R3 := R3q
  clear R3q
  have R4q := Lib.hid (R4.out.next hb)
  clear R4
  have R4 := R4q
  clear R4q
  clear hb
  go_wp2_with fail
  refine (h10_ends H T0.out F0.out ED.out).mono ?_
  rintro e w10 ⟨⟨A5, c5, rfl, hr5, hnil5, hc5⟩, hb⟩
  have HBq := Lib.hid (HB.out.trans (hb.mono HB.out.size))
  clear HB
  have HB := HBq
  clear HBq
  have T0q := Lib.hid (T0.out.next hb)
  clear T0
  have T0 := T0q
  clear T0q
  have T1q := Lib.hid (T1.out.next hb)
  clear T1
  have T1 := T1q
  clear T1q
  have T2q := Lib.hid (T2.out.next hb)
  clear T2
  have T2 := T2q
  clear T2q
  have T3q := Lib.hid (T3.out.next hb)
  clear T3
  have T3 := T3q
  clear T3q
  have T4q := Lib.hid (T4.out.next hb)
  clear T4
  have T4 := T4q
  clear T4q
  have R3q := Lib.hid (R3.out.next hb)
  clear R3
  have R3 := R3q
  clear R3q
  have R4q := Lib.hid (R4.out.next hb)
  clear R4
  have R4 := R4q
  clear R4q
  clear hb
  have R5 := Lib.hid hr5
  clear hr5 hnil5 hc5
  go_wp2_with fail
  refine (refEnds_b T0.out ED.out).mono ?_
  rintro e w11 ⟨⟨A6, c6, rfl, hr6⟩, hb⟩
  have HBq := Lib.hid (HB.out.trans (hb.mono HB.out.size))
  clear HB
  have HB := HBq
  clear HBq
  have T0q := Lib.hid (T0.out.next hb)
  clear T0
  have T0 := T0q
  clear T0q
  have T1q := Lib.hid (T1.out.next hb)
  clear T1
  have T1 := T1q
  clear T1q
  have T2q := Lib.hid (T2.out.next hb)
  clear T2
  have T2 := T2q
  clear T2q
  have T3q := Lib.hid (T3.out.next hb)
  clear T3
  have T3 := T3q
  clear T3q
  have T4q := Lib.hid (T4.out.next hb)
  clear T4
  have T4 := T4q
  clear T4q
  have R3q := Lib.hid (R3.out.next hb)
  clear R3
  have R3 := R3q
  clear R3q
  have R4q := Lib.hid (R4.out.next hb)
  clear R4
  have R4 := R4q
  clear R4q
  have R5q := Lib.hid (R5.out.next hb)
  clear R5
  have R5 := R5q
  clear R5q
  clear hb
  have R6 := Lib.hid hr6
  clear hr6
  go_wp2_with fail
  refine (refTimes_b R5.out R6.out (by have := FD.out; unfold maxLen; omega) (by have := FD.out; unfold maxLen; omega) (same_self _)).mono ?_
  rintro e w12 ⟨rfl, hb⟩
  have HBq := Lib.hid (HB.out.trans (hb.mono HB.out.size))
  clear HB
  have HB := HBq
  clear HBq
  have T0q := Lib.hid (T0.out.next hb)
  clear T0
  have T0 := T0q
  clear T0q
  have T1q := Lib.hid (T1.out.next hb)
  clear T1
  have T1 := T1q
  clear T1q
  have T2q := Lib.hid (T2.out.next hb)
  clear T2
  have T2 := T2q
  clear T2q
  have T3q := Lib.hid (T3.out.next hb)
  clear T3
  have T3 := T3q
  clear T3q
  have T4q := Lib.hid (T4.out.next hb)
  clear T4
  have T4 := T4q
  clear T4q
  have R3q := Lib.hid (R3.out.next hb)
  clear R3
  have R3 := R3q
  clear R3q
  have R4q := Lib.hid (R4.out.next hb)
  clear R4
  have R4 := R4q
  clear R4q
  have R5q := Lib.hid (R5.out.next hb)
  clear R5
  have R5 := R5q
  clear R5q
  have R6q := Lib.hid (R6.out.next hb)
  clear R6
  have R6 := R6q
  clear R6q
  clear hb
  go_wp2
  go_ret
  exact ⟨rfl, HB.out⟩


theorem heldSpans_walk (H : HeldOk) (A : Option Addr) (n c : Nat) (l : Tb) (a b : Int) (w : World) (hl : TAsk w A n c l) : Calls Try.prog 3 #[.slice A n c, .int .i64 a, .int .i64 b] w fun e w' => e = .returned (.bool true) ∧ Below w.heap.size w w' := by
  cases h0 : shortT l with
  | false => exact heldSpans_l0 H A n c l a b w hl h0
  | true => exact heldSpans_yes H A n c l a b w hl h0

end Go.Proofs.Ytbiofikijehlcaa
