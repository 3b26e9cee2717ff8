/- The statement CodePuts, as a walk over the contracts: of any spec, list of numbers, list of parts the call returns true. -/
import Derived.Test.YtlpogkcfjbabaaaMg18
import Derived.Test.YtlpogkcfjbabaaaMg30
namespace Go.Proofs.Ytlpogkcfjbabaaa
open Go.RowKit

set_option maxRecDepth 100000 in
set_option maxHeartbeats 8000000 in
theorem codePuts_walk (H : CodeOk) (s : Sp) (A : Option Addr) (n c : Nat) (l : List Int) (A2 : Option Addr) (n2 c2 : Nat) (ps : List Bs) (w : World) (hs : SAsk s) (hr : RI w w.heap.size A n l) (hj : ∀ x ∈ l, I64 x) (hnil : A = none → c = 0) (hnc : n ≤ c) (hn : n ≤ maxLen) (hp : PAsk w A2 n2 c2 ps) (hG : Glob w) :
    Calls Try.prog 3 #[.agg #[.int .i64 s.nodes, .int .i64 s.cores, .int .i64 s.gpus, .string s.tag, .bool s.whole, .int .i64 s.long, .int .i64 s.prio], .slice A n c, .slice A2 n2 c2] w fun e w' => e = .returned (.bool true) ∧ Below w.heap.size w w' := by
  have HS := Lib.hid hs
  obtain ⟨W, hW⟩ : ∃ W, W = w.alloc (spO s) := ⟨_, rfl⟩
  have BX : Hid (BoxS W w.heap.size s) := Lib.hid (by rw [hW]; exact box_new w s)
  have hb0 : Below w.heap.size w W := by rw [hW]; exact (Below.refl _ _).alloc (Nat.le_refl _) _
  have HB := Lib.hid hb0
  have HG := Lib.hid (hG.next hb0)
  have HP := Lib.hid (hp.next hb0)
  have HR := Lib.hid (hr.next hb0)
  unfold maxLen at hn
  unfold spO at hW
  clear hs hp hG
  by_cases hbig : 300 < n
  · have hd : decide ((300 : Int) < (n : Int)) = true := by simp; omega
    clear hbig hr hb0
    go_enter Try.func3, Try.ntmps3
    go_wp2_with fail
    rw [← hW]
    refine (awake8_any H _ HG.out).mono ?_
    rintro e w1 ⟨rfl, hb⟩
    have HBq := Lib.hid (HB.out.trans (hb.mono HB.out.size))
    clear HB
    have HB := HBq
    clear HBq
    have HGq := Lib.hid (HG.out.next hb)
    clear HG
    have HG := HGq
    clear HGq
    clear hb
    go_wp2
    go_ret
    exact ⟨rfl, HB.out⟩
  · have hd : decide ((300 : Int) < (n : Int)) = false := by simp; omega
    have HL : Hid (LAsk W A n c l) := Lib.hid ⟨HR.out, hnil, hnc, by omega, hj⟩
    clear hbig hr hb0 HR hj hnil hnc
    cases hsh : shortB ps with
    | false =>
      have HSH := Lib.hid hsh
      clear hsh
      go_enter Try.func3, Try.ntmps3
      go_wp2_with fail
      rw [← hW]
      refine (awake8_any H _ HG.out).mono ?_
      rintro e w1 ⟨rfl, hb⟩
      have HBq := Lib.hid (HB.out.trans (hb.mono HB.out.size))
      clear HB
      have HB := HBq
      clear HBq
      have HGq := Lib.hid (HG.out.next hb)
      clear HG
      have HG := HGq
      clear HGq
      have HPq := Lib.hid (HP.out.next hb)
      clear HP
      have HP := HPq
      clear HPq
      clear hb
      go_wp2_with fail
      refine (r8_short HP.out HSH.out).mono ?_
      rintro e w2 ⟨rfl, hb⟩
      have HBq := Lib.hid (HB.out.trans (hb.mono HB.out.size))
      clear HB
      have HB := HBq
      clear HBq
      have HGq := Lib.hid (HG.out.next hb)
      clear HG
      have HG := HGq
      clear HGq
      have HPq := Lib.hid (HP.out.next hb)
      clear HP
      have HP := HPq
      clear HPq
      clear hb
      go_wp2
      go_ret
      exact ⟨rfl, HB.out⟩
    | true =>
      have HSH := Lib.hid hsh
      have HSUM : Hid (ps.flatten.length ≤ 100000) := Lib.hid (by
        have h := of_decide_eq_true hsh
        have h1 := flatten_sum ps 300 h.2
        have h2 : ps.length * 300 ≤ 60 * 300 := Nat.mul_le_mul_right 300 h.1
        omega)
      obtain ⟨b1, e1, he1⟩ : ∃ b e, ptSpec s = (b, e) := ⟨_, _, rfl⟩
      obtain ⟨b2, e2, he2⟩ : ∃ b e, ptSet l = (b, e) := ⟨_, _, rfl⟩
      obtain ⟨b3, e3, he3⟩ : ∃ b e, ptList ps = (b, e) := ⟨_, _, rfl⟩
      have E1 := Lib.hid he1
      have E2 := Lib.hid he2
      have E3 := Lib.hid he3
      clear hsh he1 he2 he3
      go_enter Try.func3, Try.ntmps3
      go_wp2_with fail
      rw [← hW]
      refine (awake8_any H _ HG.out).mono ?_
      rintro e w1 ⟨rfl, hb⟩
      have HBq := Lib.hid (HB.out.trans (hb.mono HB.out.size))
      clear HB
      have HB := HBq
      clear HBq
      have HGq := Lib.hid (HG.out.next hb)
      clear HG
      have HG := HGq
      clear HGq
      have HPq := Lib.hid (HP.out.next hb)
      clear HP
      have HP := HPq
      clear HPq
      have HLq := Lib.hid (HL.out.next hb)
      clear HL
      have HL := HLq
      clear HLq
      have BXq := Lib.hid (BX.out.next hb)
      clear BX
      have BX := BXq
      clear BXq
      clear hb
      clear hW
      go_wp2_with fail
      refine (r8_short HP.out HSH.out).mono ?_
      rintro e w2 ⟨rfl, hb⟩
      have HBq := Lib.hid (HB.out.trans (hb.mono HB.out.size))
      clear HB
      have HB := HBq
      clear HBq
      have HGq := Lib.hid (HG.out.next hb)
      clear HG
      have HG := HGq
      clear HGq
      have HPq := Lib.hid (HP.out.next hb)
      clear HP
      have HP := HPq
      clear HPq
      have HLq := Lib.hid (HL.out.next hb)
      clear HL
      have HL := HLq
      clear HLq
      have BXq := Lib.hid (BX.out.next hb)
      clear BX
      have BX := BXq
      clear BXq
      clear hb
      have q0 := BX.out.c0
      have q1 := BX.out.c1
      have q2 := BX.out.c2
      have q3 := BX.out.c3
      have q4 := BX.out.c4
      have q5 := BX.out.c5
      have q6 := BX.out.c6
      go_wp2_with fail
      refine (c8_spec H HG.out HS.out E1.out).mono ?_
      rintro e w3 ⟨⟨A3, c3, rfl, ha3, _⟩, hb⟩
      have HBq := Lib.hid (HB.out.trans (hb.mono HB.out.size))
      clear HB
      have HB := HBq
      clear HBq
      have HGq := Lib.hid (HG.out.next hb)
      clear HG
      have HG := HGq
      clear HGq
      have HPq := Lib.hid (HP.out.next hb)
      clear HP
      have HP := HPq
      clear HPq
      have HLq := Lib.hid (HL.out.next hb)
      clear HL
      have HL := HLq
      clear HLq
      have BXq := Lib.hid (BX.out.next hb)
      clear BX
      have BX := BXq
      clear BXq
      clear hb
      have F3 := Lib.hid ha3
      clear ha3
      clear q0 q1 q2 q3 q4 q5 q6
      have q0 := BX.out.c0
      have q1 := BX.out.c1
      have q2 := BX.out.c2
      have q3 := BX.out.c3
      have q4 := BX.out.c4
      have q5 := BX.out.c5
      have q6 := BX.out.c6
      go_wp2_with fail
      refine (r8_spec HS.out E1.out).mono ?_
      rintro e w4 ⟨⟨A4, c4, rfl, ha4⟩, hb⟩
      have HBq := Lib.hid (HB.out.trans (hb.mono HB.out.size))
      clear HB
      have HB := HBq
      clear HBq
      have HGq := Lib.hid (HG.out.next hb)
      clear HG
      have HG := HGq
      clear HGq
      have HPq := Lib.hid (HP.out.next hb)
      clear HP
      have HP := HPq
      clear HPq
      have HLq := Lib.hid (HL.out.next hb)
      clear HL
      have HL := HLq
      clear HLq
      have BXq := Lib.hid (BX.out.next hb)
      clear BX
      have BX := BXq
      clear BXq
      have F3q := Lib.hid (F3.out.next hb)
      clear F3
      have F3 := F3q
      clear F3q
      clear hb
      have F4 := Lib.hid ha4
      clear ha4
      clear q0 q1 q2 q3 q4 q5 q6
      go_wp2_with fail
      refine (c8_set H HG.out HL.out E2.out).mono ?_
      rintro e w5 ⟨⟨A5, c5, rfl, ha5, _⟩, hb⟩
      have HBq := Lib.hid (HB.out.trans (hb.mono HB.out.size))
      clear HB
      have HB := HBq
      clear HBq
      have HGq := Lib.hid (HG.out.next hb)
      clear HG
      have HG := HGq
      clear HGq
      have HPq := Lib.hid (HP.out.next hb)
      clear HP
      have HP := HPq
      clear HPq
      have HLq := Lib.hid (HL.out.next hb)
      clear HL
      have HL := HLq
      clear HLq
      have BXq := Lib.hid (BX.out.next hb)
      clear BX
      have BX := BXq
      clear BXq
      have F3q := Lib.hid (F3.out.next hb)
      clear F3
      have F3 := F3q
      clear F3q
      have F4q := Lib.hid (F4.out.next hb)
      clear F4
      have F4 := F4q
      clear F4q
      clear hb
      have F5 := Lib.hid ha5
      clear ha5
      go_wp2_with fail
      refine (r8_set HL.out E2.out).mono ?_
      rintro e w6 ⟨⟨A6, c6, rfl, ha6⟩, hb⟩
      have HBq := Lib.hid (HB.out.trans (hb.mono HB.out.size))
      clear HB
      have HB := HBq
      clear HBq
      have HGq := Lib.hid (HG.out.next hb)
      clear HG
      have HG := HGq
      clear HGq
      have HPq := Lib.hid (HP.out.next hb)
      clear HP
      have HP := HPq
      clear HPq
      have HLq := Lib.hid (HL.out.next hb)
      clear HL
      have HL := HLq
      clear HLq
      have BXq := Lib.hid (BX.out.next hb)
      clear BX
      have BX := BXq
      clear BXq
      have F3q := Lib.hid (F3.out.next hb)
      clear F3
      have F3 := F3q
      clear F3q
      have F4q := Lib.hid (F4.out.next hb)
      clear F4
      have F4 := F4q
      clear F4q
      have F5q := Lib.hid (F5.out.next hb)
      clear F5
      have F5 := F5q
      clear F5q
      clear hb
      have F6 := Lib.hid ha6
      clear ha6
      go_wp2_with fail
      refine (c8_list H HG.out HP.out HSUM.out E3.out).mono ?_
      rintro e w7 ⟨⟨A7, c7, rfl, ha7⟩, hb⟩
      have HBq := Lib.hid (HB.out.trans (hb.mono HB.out.size))
      clear HB
      have HB := HBq
      clear HBq
      have HGq := Lib.hid (HG.out.next hb)
      clear HG
      have HG := HGq
      clear HGq
      have HPq := Lib.hid (HP.out.next hb)
      clear HP
      have HP := HPq
      clear HPq
      have HLq := Lib.hid (HL.out.next hb)
      clear HL
      have HL := HLq
      clear HLq
      have BXq := Lib.hid (BX.out.next hb)
      clear BX
      have BX := BXq
      clear BXq
      have F3q := Lib.hid (F3.out.next hb)
      clear F3
      have F3 := F3q
      clear F3q
      have F4q := Lib.hid (F4.out.next hb)
      clear F4
      have F4 := F4q
      clear F4q
      have F5q := Lib.hid (F5.out.next hb)
      clear F5
      have F5 := F5q
      clear F5q
      have F6q := Lib.hid (F6.out.next hb)
      clear F6
      have F6 := F6q
      clear F6q
      clear hb
      have F7 := Lib.hid ha7
      clear ha7
      go_wp2_with fail
      refine (r8_list HP.out HSUM.out E3.out).mono ?_
      rintro e w8 ⟨⟨A8, c8, rfl, ha8⟩, hb⟩
      have HBq := Lib.hid (HB.out.trans (hb.mono HB.out.size))
      clear HB
      have HB := HBq
      clear HBq
      have HGq := Lib.hid (HG.out.next hb)
      clear HG
      have HG := HGq
      clear HGq
      have HPq := Lib.hid (HP.out.next hb)
      clear HP
      have HP := HPq
      clear HPq
      have HLq := Lib.hid (HL.out.next hb)
      clear HL
      have HL := HLq
      clear HLq
      have BXq := Lib.hid (BX.out.next hb)
      clear BX
      have BX := BXq
      clear BXq
      have F3q := Lib.hid (F3.out.next hb)
      clear F3
      have F3 := F3q
      clear F3q
      have F4q := Lib.hid (F4.out.next hb)
      clear F4
      have F4 := F4q
      clear F4q
      have F5q := Lib.hid (F5.out.next hb)
      clear F5
      have F5 := F5q
      clear F5q
      have F6q := Lib.hid (F6.out.next hb)
      clear F6
      have F6 := F6q
      clear F6q
      have F7q := Lib.hid (F7.out.next hb)
      clear F7
      have F7 := F7q
      clear F7q
      clear hb
      have F8 := Lib.hid ha8
      clear ha8
      have s3 := F3.out.str c3
      have s4 := F4.out.str c4
      have s5 := F5.out.str c5
      have s6 := F6.out.str c6
      have s7 := F7.out.str c7
      have s8 := F8.out.str c8
      go_wp2
      go_ret
      exact ⟨rfl, HB.out⟩

end Go.Proofs.Ytlpogkcfjbabaaa
