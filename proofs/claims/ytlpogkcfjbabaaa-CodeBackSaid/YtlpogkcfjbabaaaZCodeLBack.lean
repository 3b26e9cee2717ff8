/- The statement CodeBack, as a walk over the contracts: of any spec and list of numbers the call returns true. -/
import Derived.Test.YtlpogkcfjbabaaaMg18
import Derived.Test.YtlpogkcfjbabaaaMg30
import Derived.Test.YtlpogkcfjbabaaaMg07
import Derived.Test.YtlpogkcfjbabaaaMg06
namespace Go.Proofs.Ytlpogkcfjbabaaa
open Go.RowKit

theorem PON.below {w wr : World} {v : Value} {ps : List Bs} (h : PON w v ps wr) : Below w.heap.size w wr := ON.below h
theorem size_alloc (w : World) (o : Obj) : (w.alloc o).heap.size = w.heap.size + 1 := by simp
theorem back_spec {s : Sp} (h : rightS s = true) : IsPart (specB s) := .inl ⟨s, h, rfl⟩
theorem back_set {l : List Int} (h : rightB l = true) : IsPart (setB l) := .inr ⟨l, h, rfl⟩

set_option maxRecDepth 100000 in
set_option maxHeartbeats 8000000 in
theorem codeBack_00 (H : CodeOk) (HSP : SpecOk) (s : Sp) (A : Option Addr) (n c : Nat) (w : World) (hs : SAsk s) (hn : n ≤ maxLen) (hG : Glob w) (hr : rightS s = false) (hbig : 300 < n) :
    Calls Try.prog 4 #[.agg #[.int .i64 s.nodes, .int .i64 s.cores, .int .i64 s.gpus, .string s.tag, .bool s.whole, .int .i64 s.long, .int .i64 s.prio], .slice A n c] w fun e w' => e = .returned (.bool true) ∧ Below w.heap.size w w' := by
  have HS := Lib.hid hs
  obtain ⟨W, hW⟩ : ∃ W, W = w.alloc (spO s) := ⟨_, rfl⟩
  have BX : Hid (BoxS W w.heap.size s) := Lib.hid (by rw [hW]; exact box_new w s)
  have hb0 : Below w.heap.size w W := by rw [hW]; exact (Below.refl _ _).alloc (Nat.le_refl _) _
  have HB := Lib.hid hb0
  have HG := Lib.hid (hG.next hb0)
  have HR := Lib.hid hr
  unfold maxLen at hn
  unfold spO at hW
  have hd : decide ((n : Int) ≤ 300) = false := by simp; omega
  have hall : ∀ p ∈ ([] : List Bs), IsPart p := fun p hp => by simp at hp
  have PP := Lib.hid (list_backQ (ps := []) (by simp) hall).1
  have RPP := Lib.hid (list_backQ (ps := []) (by simp) hall).2
  have hfl := flatten_sum [] 4700 (fun p hp => part_len (hall p hp))
  have hpl : ([] : List Bs).length ≤ 3 := by simp
  have hmul : ([] : List Bs).length * 4700 ≤ 3 * 4700 := Nat.mul_le_mul_right 4700 hpl
  have LP : Hid (([] : List Bs).flatten.length ≤ 100000) := Lib.hid (by omega)
  have LB : Hid ((listB []).length ≤ 20000) := Lib.hid (by
    have := numB_len (n := ([] : List Bs).length) (by omega)
    unfold listB
    rw [List.length_cons, List.length_append]
    omega)
  clear hs hG hr hb0 hall hfl hpl hmul hbig
  go_enter Try.func4, Try.ntmps4
  go_wp2_with fail
  rw [← hW]
  refine (awake8_any H _ HG.out).mono ?_
  rintro e w1 ⟨rfl, hb⟩
  have HBq := Lib.hid (HB.out.trans (hb.mono HB.out.size))
  clear HB
  have HB := HBq
  clear HBq
  have HGq := Lib.hid (HG.out.next hb)
  clear HG
  have HG := HGq
  clear HGq
  have BXq := Lib.hid (BX.out.next hb)
  clear BX
  have BX := BXq
  clear BXq
  clear hb
  clear hW
  have HB_ := HB
  have HG_ := HG
  have BX_ := BX
  have HPT : Hid (PON w1 (.slice none 0 0) [] w1) := Lib.hid (PON.nil w1)
  have q0 := BX.out.c0
  have q1 := BX.out.c1
  have q2 := BX.out.c2
  have q3 := BX.out.c3
  have q4 := BX.out.c4
  have q5 := BX.out.c5
  have q6 := BX.out.c6
  go_wp2_with fail
  refine (s7_right HSP HS.out HG.out HR.out).mono ?_
  rintro e w2 ⟨rfl, hb⟩
  have HBq := Lib.hid (HB.out.trans (hb.mono HB.out.size))
  clear HB
  have HB := HBq
  clear HBq
  have HGq := Lib.hid (HG.out.next hb)
  clear HG
  have HG := HGq
  clear HGq
  have BXq := Lib.hid (BX.out.next hb)
  clear BX
  have BX := BXq
  clear BXq
  have HPTq := Lib.hid (HPT.out.next hb)
  clear HPT
  have HPT := HPTq
  clear HPTq
  clear hb
  clear q0 q1 q2 q3 q4 q5 q6
  have HPA : Hid (PAsk w2 none 0 0 []) := Lib.hid ⟨RP.nil, fun _ => rfl, Nat.le_refl _, Nat.zero_le _⟩
  clear HPT
  go_wp2_with fail
  refine (c8_list H HG.out HPA.out LP.out PP.out).mono ?_
  rintro e w3 ⟨⟨A10, c10, rfl, ha10⟩, hb⟩
  have HBq := Lib.hid (HB.out.trans (hb.mono HB.out.size))
  clear HB
  have HB := HBq
  clear HBq
  have HGq := Lib.hid (HG.out.next hb)
  clear HG
  have HG := HGq
  clear HGq
  have BXq := Lib.hid (BX.out.next hb)
  clear BX
  have BX := BXq
  clear BXq
  have HPAq := Lib.hid (HPA.out.next hb)
  clear HPA
  have HPA := HPAq
  clear HPAq
  clear hb
  have F10 := Lib.hid ha10
  clear ha10
  go_wp2_with fail
  refine (c8_readList H HG.out F10.out LB.out RPP.out).mono ?_
  rintro e w4 ⟨⟨A11, c11, rfl, ha11⟩, hb⟩
  have HBq := Lib.hid (HB.out.trans (hb.mono HB.out.size))
  clear HB
  have HB := HBq
  clear HBq
  have HGq := Lib.hid (HG.out.next hb)
  clear HG
  have HG := HGq
  clear HGq
  have BXq := Lib.hid (BX.out.next hb)
  clear BX
  have BX := BXq
  clear BXq
  have HPAq := Lib.hid (HPA.out.next hb)
  clear HPA
  have HPA := HPAq
  clear HPAq
  have F10q := Lib.hid (F10.out.next hb)
  clear F10
  have F10 := F10q
  clear F10q
  clear hb
  have F11 := Lib.hid ha11
  clear ha11
  go_wp2_with fail
  refine (r8_same F11.out HPA.out rfl).mono ?_
  rintro e w5 ⟨rfl, hb⟩
  have HBq := Lib.hid (HB.out.trans (hb.mono HB.out.size))
  clear HB
  have HB := HBq
  clear HBq
  have HGq := Lib.hid (HG.out.next hb)
  clear HG
  have HG := HGq
  clear HGq
  have BXq := Lib.hid (BX.out.next hb)
  clear BX
  have BX := BXq
  clear BXq
  have HPAq := Lib.hid (HPA.out.next hb)
  clear HPA
  have HPA := HPAq
  clear HPAq
  have F10q := Lib.hid (F10.out.next hb)
  clear F10
  have F10 := F10q
  clear F10q
  have F11q := Lib.hid (F11.out.next hb)
  clear F11
  have F11 := F11q
  clear F11q
  clear hb
  go_wp2
  go_ret
  exact ⟨rfl, HB.out⟩

set_option maxRecDepth 100000 in
set_option maxHeartbeats 8000000 in
theorem codeBack_01 (H : CodeOk) (HSP : SpecOk) (s : Sp) (A : Option Addr) (n c : Nat) (l : List Int) (w : World) (hs : SAsk s) (hr0 : RI w w.heap.size A n l) (hj : ∀ x ∈ l, I64 x) (hnil : A = none → c = 0) (hnc : n ≤ c) (hn : n ≤ maxLen) (hG : Glob w) (hr : rightS s = false) (hle : n ≤ 300) (hb1 : rightB l = false) :
    Calls Try.prog 4 #[.agg #[.int .i64 s.nodes, .int .i64 s.cores, .int .i64 s.gpus, .string s.tag, .bool s.whole, .int .i64 s.long, .int .i64 s.prio], .slice A n c] w fun e w' => e = .returned (.bool true) ∧ Below w.heap.size w w' := by
  have HS := Lib.hid hs
  obtain ⟨W, hW⟩ : ∃ W, W = w.alloc (spO s) := ⟨_, rfl⟩
  have BX : Hid (BoxS W w.heap.size s) := Lib.hid (by rw [hW]; exact box_new w s)
  have hb0 : Below w.heap.size w W := by rw [hW]; exact (Below.refl _ _).alloc (Nat.le_refl _) _
  have HB := Lib.hid hb0
  have HG := Lib.hid (hG.next hb0)
  have HR := Lib.hid hr
  unfold maxLen at hn
  unfold spO at hW
  have hd : decide ((n : Int) ≤ 300) = true := by simp; omega
  have HL : Hid (LAsk W A n c l) := Lib.hid ⟨hr0.next hb0, hnil, hnc, by omega, hj⟩
  have RB1 := Lib.hid hb1
  have HLN : Hid (l.length = n) := Lib.hid hr0.1
  have hall : ∀ p ∈ ([] : List Bs), IsPart p := fun p hp => by simp at hp
  have PP := Lib.hid (list_backQ (ps := []) (by simp) hall).1
  have RPP := Lib.hid (list_backQ (ps := []) (by simp) hall).2
  have hfl := flatten_sum [] 4700 (fun p hp => part_len (hall p hp))
  have hpl : ([] : List Bs).length ≤ 3 := by simp
  have hmul : ([] : List Bs).length * 4700 ≤ 3 * 4700 := Nat.mul_le_mul_right 4700 hpl
  have LP : Hid (([] : List Bs).flatten.length ≤ 100000) := Lib.hid (by omega)
  have LB : Hid ((listB []).length ≤ 20000) := Lib.hid (by
    have := numB_len (n := ([] : List Bs).length) (by omega)
    unfold listB
    rw [List.length_cons, List.length_append]
    omega)
  clear hs hG hr hb0 hall hfl hpl hmul hr0 hj hnil hnc hb1 hle
  go_enter Try.func4, Try.ntmps4
  go_wp2_with fail
  rw [← hW]
  refine (awake8_any H _ HG.out).mono ?_
  rintro e w1 ⟨rfl, hb⟩
  have HBq := Lib.hid (HB.out.trans (hb.mono HB.out.size))
  clear HB
  have HB := HBq
  clear HBq
  have HGq := Lib.hid (HG.out.next hb)
  clear HG
  have HG := HGq
  clear HGq
  have BXq := Lib.hid (BX.out.next hb)
  clear BX
  have BX := BXq
  clear BXq
  have HLq := Lib.hid (HL.out.next hb)
  clear HL
  have HL := HLq
  clear HLq
  clear hb
  clear hW
  have HB_ := HB
  have HG_ := HG
  have BX_ := BX
  have HL_ := HL
  have HPT : Hid (PON w1 (.slice none 0 0) [] w1) := Lib.hid (PON.nil w1)
  have q0 := BX.out.c0
  have q1 := BX.out.c1
  have q2 := BX.out.c2
  have q3 := BX.out.c3
  have q4 := BX.out.c4
  have q5 := BX.out.c5
  have q6 := BX.out.c6
  go_wp2_with fail
  refine (s7_right HSP HS.out HG.out HR.out).mono ?_
  rintro e w2 ⟨rfl, hb⟩
  have HBq := Lib.hid (HB.out.trans (hb.mono HB.out.size))
  clear HB
  have HB := HBq
  clear HBq
  have HGq := Lib.hid (HG.out.next hb)
  clear HG
  have HG := HGq
  clear HGq
  have BXq := Lib.hid (BX.out.next hb)
  clear BX
  have BX := BXq
  clear BXq
  have HLq := Lib.hid (HL.out.next hb)
  clear HL
  have HL := HLq
  clear HLq
  have HPTq := Lib.hid (HPT.out.next hb)
  clear HPT
  have HPT := HPTq
  clear HPTq
  clear hb
  clear q0 q1 q2 q3 q4 q5 q6
  go_wp2_with fail
  refine (s_isSet HL.out.reads (ml300 HL.out.few) RB1.out).mono ?_
  rintro e w3 ⟨rfl, hb⟩
  have HBq := Lib.hid (HB.out.trans (hb.mono HB.out.size))
  clear HB
  have HB := HBq
  clear HBq
  have HGq := Lib.hid (HG.out.next hb)
  clear HG
  have HG := HGq
  clear HGq
  have BXq := Lib.hid (BX.out.next hb)
  clear BX
  have BX := BXq
  clear BXq
  have HLq := Lib.hid (HL.out.next hb)
  clear HL
  have HL := HLq
  clear HLq
  have HPTq := Lib.hid (HPT.out.next hb)
  clear HPT
  have HPT := HPTq
  clear HPTq
  clear hb
  have HPA : Hid (PAsk w3 none 0 0 []) := Lib.hid ⟨RP.nil, fun _ => rfl, Nat.le_refl _, Nat.zero_le _⟩
  clear HPT
  go_wp2_with fail
  refine (c8_list H HG.out HPA.out LP.out PP.out).mono ?_
  rintro e w4 ⟨⟨A10, c10, rfl, ha10⟩, hb⟩
  have HBq := Lib.hid (HB.out.trans (hb.mono HB.out.size))
  clear HB
  have HB := HBq
  clear HBq
  have HGq := Lib.hid (HG.out.next hb)
  clear HG
  have HG := HGq
  clear HGq
  have BXq := Lib.hid (BX.out.next hb)
  clear BX
  have BX := BXq
  clear BXq
  have HLq := Lib.hid (HL.out.next hb)
  clear HL
  have HL := HLq
  clear HLq
  have HPAq := Lib.hid (HPA.out.next hb)
  clear HPA
  have HPA := HPAq
  clear HPAq
  clear hb
  have F10 := Lib.hid ha10
  clear ha10
  go_wp2_with fail
  refine (c8_readList H HG.out F10.out LB.out RPP.out).mono ?_
  rintro e w5 ⟨⟨A11, c11, rfl, ha11⟩, hb⟩
  have HBq := Lib.hid (HB.out.trans (hb.mono HB.out.size))
  clear HB
  have HB := HBq
  clear HBq
  have HGq := Lib.hid (HG.out.next hb)
  clear HG
  have HG := HGq
  clear HGq
  have BXq := Lib.hid (BX.out.next hb)
  clear BX
  have BX := BXq
  clear BXq
  have HLq := Lib.hid (HL.out.next hb)
  clear HL
  have HL := HLq
  clear HLq
  have HPAq := Lib.hid (HPA.out.next hb)
  clear HPA
  have HPA := HPAq
  clear HPAq
  have F10q := Lib.hid (F10.out.next hb)
  clear F10
  have F10 := F10q
  clear F10q
  clear hb
  have F11 := Lib.hid ha11
  clear ha11
  go_wp2_with fail
  refine (r8_same F11.out HPA.out rfl).mono ?_
  rintro e w6 ⟨rfl, hb⟩
  have HBq := Lib.hid (HB.out.trans (hb.mono HB.out.size))
  clear HB
  have HB := HBq
  clear HBq
  have HGq := Lib.hid (HG.out.next hb)
  clear HG
  have HG := HGq
  clear HGq
  have BXq := Lib.hid (BX.out.next hb)
  clear BX
  have BX := BXq
  clear BXq
  have HLq := Lib.hid (HL.out.next hb)
  clear HL
  have HL := HLq
  clear HLq
  have HPAq := Lib.hid (HPA.out.next hb)
  clear HPA
  have HPA := HPAq
  clear HPAq
  have F10q := Lib.hid (F10.out.next hb)
  clear F10
  have F10 := F10q
  clear F10q
  have F11q := Lib.hid (F11.out.next hb)
  clear F11
  have F11 := F11q
  clear F11q
  clear hb
  go_wp2
  go_ret
  exact ⟨rfl, HB.out⟩

set_option maxRecDepth 100000 in
set_option maxHeartbeats 8000000 in
theorem codeBack_02 (H : CodeOk) (HSP : SpecOk) (s : Sp) (A : Option Addr) (n c : Nat) (l : List Int) (w : World) (hs : SAsk s) (hr0 : RI w w.heap.size A n l) (hj : ∀ x ∈ l, I64 x) (hnil : A = none → c = 0) (hnc : n ≤ c) (hn : n ≤ maxLen) (hG : Glob w) (hr : rightS s = false) (hle : n ≤ 300) (hb1 : rightB l = true) :
    Calls Try.prog 4 #[.agg #[.int .i64 s.nodes, .int .i64 s.cores, .int .i64 s.gpus, .string s.tag, .bool s.whole, .int .i64 s.long, .int .i64 s.prio], .slice A n c] w fun e w' => e = .returned (.bool true) ∧ Below w.heap.size w w' := by
  have HS := Lib.hid hs
  obtain ⟨W, hW⟩ : ∃ W, W = w.alloc (spO s) := ⟨_, rfl⟩
  have BX : Hid (BoxS W w.heap.size s) := Lib.hid (by rw [hW]; exact box_new w s)
  have hb0 : Below w.heap.size w W := by rw [hW]; exact (Below.refl _ _).alloc (Nat.le_refl _) _
  have HB := Lib.hid hb0
  have HG := Lib.hid (hG.next hb0)
  have HR := Lib.hid hr
  unfold maxLen at hn
  unfold spO at hW
  have hd : decide ((n : Int) ≤ 300) = true := by simp; omega
  have HL : Hid (LAsk W A n c l) := Lib.hid ⟨hr0.next hb0, hnil, hnc, by omega, hj⟩
  have RB1 := Lib.hid hb1
  have HLN : Hid (l.length = n) := Lib.hid hr0.1
  have PL := Lib.hid (set_backQ hb1).1
  have RL := Lib.hid (set_backQ hb1).2
  have LL : Hid ((setB l).length ≤ 20000) := Lib.hid (Nat.le_trans (setB_len hb1) (by omega))
  have hall : ∀ p ∈ (([] ++ [setB l, setB l]) : List Bs), IsPart p := fun p hp => by
    simp at hp
    subst hp
    exact back_set hb1
  have PP := Lib.hid (list_backQ (ps := ([] ++ [setB l, setB l])) (by simp) hall).1
  have RPP := Lib.hid (list_backQ (ps := ([] ++ [setB l, setB l])) (by simp) hall).2
  have hfl := flatten_sum ([] ++ [setB l, setB l]) 4700 (fun p hp => part_len (hall p hp))
  have hpl : (([] ++ [setB l, setB l]) : List Bs).length ≤ 3 := by simp
  have hmul : (([] ++ [setB l, setB l]) : List Bs).length * 4700 ≤ 3 * 4700 := Nat.mul_le_mul_right 4700 hpl
  have LP : Hid ((([] ++ [setB l, setB l]) : List Bs).flatten.length ≤ 100000) := Lib.hid (by omega)
  have LB : Hid ((listB ([] ++ [setB l, setB l])).length ≤ 20000) := Lib.hid (by
    have := numB_len (n := (([] ++ [setB l, setB l]) : List Bs).length) (by omega)
    unfold listB
    rw [List.length_cons, List.length_append]
    omega)
  clear hs hG hr hb0 hall hfl hpl hmul hr0 hj hnil hnc hb1 hle
  go_enter Try.func4, Try.ntmps4
  go_wp2_with fail
  rw [← hW]
  refine (awake8_any H _ HG.out).mono ?_
  rintro e w1 ⟨rfl, hb⟩
  have HBq := Lib.hid (HB.out.trans (hb.mono HB.out.size))
  clear HB
  have HB := HBq
  clear HBq
  have HGq := Lib.hid (HG.out.next hb)
  clear HG
  have HG := HGq
  clear HGq
  have BXq := Lib.hid (BX.out.next hb)
  clear BX
  have BX := BXq
  clear BXq
  have HLq := Lib.hid (HL.out.next hb)
  clear HL
  have HL := HLq
  clear HLq
  clear hb
  clear hW
  have HB_ := HB
  have HG_ := HG
  have BX_ := BX
  have HL_ := HL
  have HPT : Hid (PON w1 (.slice none 0 0) [] w1) := Lib.hid (PON.nil w1)
  have q0 := BX.out.c0
  have q1 := BX.out.c1
  have q2 := BX.out.c2
  have q3 := BX.out.c3
  have q4 := BX.out.c4
  have q5 := BX.out.c5
  have q6 := BX.out.c6
  go_wp2_with fail
  refine (s7_right HSP HS.out HG.out HR.out).mono ?_
  rintro e w2 ⟨rfl, hb⟩
  have HBq := Lib.hid (HB.out.trans (hb.mono HB.out.size))
  clear HB
  have HB := HBq
  clear HBq
  have HGq := Lib.hid (HG.out.next hb)
  clear HG
  have HG := HGq
  clear HGq
  have BXq := Lib.hid (BX.out.next hb)
  clear BX
  have BX := BXq
  clear BXq
  have HLq := Lib.hid (HL.out.next hb)
  clear HL
  have HL := HLq
  clear HLq
  have HPTq := Lib.hid (HPT.out.next hb)
  clear HPT
  have HPT := HPTq
  clear HPTq
  clear hb
  clear q0 q1 q2 q3 q4 q5 q6
  go_wp2_with fail
  refine (s_isSet HL.out.reads (ml300 HL.out.few) RB1.out).mono ?_
  rintro e w3 ⟨rfl, hb⟩
  have HBq := Lib.hid (HB.out.trans (hb.mono HB.out.size))
  clear HB
  have HB := HBq
  clear HBq
  have HGq := Lib.hid (HG.out.next hb)
  clear HG
  have HG := HGq
  clear HGq
  have BXq := Lib.hid (BX.out.next hb)
  clear BX
  have BX := BXq
  clear BXq
  have HLq := Lib.hid (HL.out.next hb)
  clear HL
  have HL := HLq
  clear HLq
  have HPTq := Lib.hid (HPT.out.next hb)
  clear HPT
  have HPT := HPTq
  clear HPTq
  clear hb
  go_wp2_with fail
  refine (c8_set H HG.out HL.out PL.out).mono ?_
  rintro e w4 ⟨⟨A7, c7, rfl, ha7, hn7⟩, hb⟩
  have hpn := pn_new HPT.out hb ha7 hn7
  have HBq := Lib.hid (HB.out.trans (hb.mono HB.out.size))
  clear HB
  have HB := HBq
  clear HBq
  have HGq := Lib.hid (HG.out.next hb)
  clear HG
  have HG := HGq
  clear HGq
  have BXq := Lib.hid (BX.out.next hb)
  clear BX
  have BX := BXq
  clear BXq
  have HLq := Lib.hid (HL.out.next hb)
  clear HL
  have HL := HLq
  clear HLq
  have HPTq := Lib.hid (HPT.out.next hb)
  clear HPT
  have HPT := HPTq
  clear HPTq
  clear hb
  have F7 := Lib.hid ha7
  have PN7 := Lib.hid hpn
  clear ha7 hn7 hpn
  go_wp2_with fail
  refine (c8_readSet H HG.out F7.out LL.out RL.out).mono ?_
  rintro e w5 ⟨⟨A8, c8, rfl, hr8, hz8, hc8⟩, hb⟩
  rw [HLN.out] at hr8 ⊢
  have HBq := Lib.hid (HB.out.trans (hb.mono HB.out.size))
  clear HB
  have HB := HBq
  clear HBq
  have HGq := Lib.hid (HG.out.next hb)
  clear HG
  have HG := HGq
  clear HGq
  have BXq := Lib.hid (BX.out.next hb)
  clear BX
  have BX := BXq
  clear BXq
  have HLq := Lib.hid (HL.out.next hb)
  clear HL
  have HL := HLq
  clear HLq
  have HPTq := Lib.hid (HPT.out.next hb)
  clear HPT
  have HPT := HPTq
  clear HPTq
  have F7q := Lib.hid (F7.out.next hb)
  clear F7
  have F7 := F7q
  clear F7q
  have PN7q := Lib.hid (PN7.out.next hb)
  clear PN7
  have PN7 := PN7q
  clear PN7q
  clear hb
  have F8 := Lib.hid hr8
  clear hr8 hz8 hc8
  go_wp2_with fail
  refine (ri_same HL.out.reads F8.out (ml300 HL.out.few) (ml300 HL.out.few) (same_self l)).mono ?_
  rintro e w6 ⟨rfl, hb⟩
  have HBq := Lib.hid (HB.out.trans (hb.mono HB.out.size))
  clear HB
  have HB := HBq
  clear HBq
  have HGq := Lib.hid (HG.out.next hb)
  clear HG
  have HG := HGq
  clear HGq
  have BXq := Lib.hid (BX.out.next hb)
  clear BX
  have BX := BXq
  clear BXq
  have HLq := Lib.hid (HL.out.next hb)
  clear HL
  have HL := HLq
  clear HLq
  have HPTq := Lib.hid (HPT.out.next hb)
  clear HPT
  have HPT := HPTq
  clear HPTq
  have F7q := Lib.hid (F7.out.next hb)
  clear F7
  have F7 := F7q
  clear F7q
  have PN7q := Lib.hid (PN7.out.next hb)
  clear PN7
  have PN7 := PN7q
  clear PN7q
  have F8q := Lib.hid (F8.out.next hb)
  clear F8
  have F8 := F8q
  clear F8q
  clear hb
  clear F7
  clear F8
  go_wp2_with (at_builtin; refine wpList_append_P2 rfl (.tmp 76) (.tmp 79) rfl HPT.out rfl _ _ _ _ PN7.out rfl (by simp) ?_; intro v9 w9 hON; refine Hid.out ?_)
  refine Lib.hid ?_
  clear HPT PN7 HB HG BX HL
  have HPT : Hid (PON w1 v9 ([] ++ [setB l, setB l]) w9) := Lib.hid hON
  clear hON
  have HB := Lib.hid (HB_.out.trans (HPT.out.below.mono HB_.out.size))
  have HG := Lib.hid (HG_.out.next HPT.out.below)
  have BX := Lib.hid (BX_.out.next HPT.out.below)
  have HL := Lib.hid (HL_.out.next HPT.out.below)
  obtain ⟨Ap, cp, rfl, hpa⟩ := HPT.out.pask (by simp)
  have HPA := Lib.hid hpa
  clear hpa
  clear HPT
  go_wp2_with fail
  refine (c8_list H HG.out HPA.out LP.out PP.out).mono ?_
  rintro e w7 ⟨⟨A10, c10, rfl, ha10⟩, hb⟩
  have HBq := Lib.hid (HB.out.trans (hb.mono HB.out.size))
  clear HB
  have HB := HBq
  clear HBq
  have HGq := Lib.hid (HG.out.next hb)
  clear HG
  have HG := HGq
  clear HGq
  have BXq := Lib.hid (BX.out.next hb)
  clear BX
  have BX := BXq
  clear BXq
  have HLq := Lib.hid (HL.out.next hb)
  clear HL
  have HL := HLq
  clear HLq
  have HPAq := Lib.hid (HPA.out.next hb)
  clear HPA
  have HPA := HPAq
  clear HPAq
  clear hb
  have F10 := Lib.hid ha10
  clear ha10
  go_wp2_with fail
  refine (c8_readList H HG.out F10.out LB.out RPP.out).mono ?_
  rintro e w8 ⟨⟨A11, c11, rfl, ha11⟩, hb⟩
  have HBq := Lib.hid (HB.out.trans (hb.mono HB.out.size))
  clear HB
  have HB := HBq
  clear HBq
  have HGq := Lib.hid (HG.out.next hb)
  clear HG
  have HG := HGq
  clear HGq
  have BXq := Lib.hid (BX.out.next hb)
  clear BX
  have BX := BXq
  clear BXq
  have HLq := Lib.hid (HL.out.next hb)
  clear HL
  have HL := HLq
  clear HLq
  have HPAq := Lib.hid (HPA.out.next hb)
  clear HPA
  have HPA := HPAq
  clear HPAq
  have F10q := Lib.hid (F10.out.next hb)
  clear F10
  have F10 := F10q
  clear F10q
  clear hb
  have F11 := Lib.hid ha11
  clear ha11
  go_wp2_with fail
  refine (r8_same F11.out HPA.out rfl).mono ?_
  rintro e w9 ⟨rfl, hb⟩
  have HBq := Lib.hid (HB.out.trans (hb.mono HB.out.size))
  clear HB
  have HB := HBq
  clear HBq
  have HGq := Lib.hid (HG.out.next hb)
  clear HG
  have HG := HGq
  clear HGq
  have BXq := Lib.hid (BX.out.next hb)
  clear BX
  have BX := BXq
  clear BXq
  have HLq := Lib.hid (HL.out.next hb)
  clear HL
  have HL := HLq
  clear HLq
  have HPAq := Lib.hid (HPA.out.next hb)
  clear HPA
  have HPA := HPAq
  clear HPAq
  have F10q := Lib.hid (F10.out.next hb)
  clear F10
  have F10 := F10q
  clear F10q
  have F11q := Lib.hid (F11.out.next hb)
  clear F11
  have F11 := F11q
  clear F11q
  clear hb
  go_wp2
  go_ret
  exact ⟨rfl, HB.out⟩

set_option maxRecDepth 100000 in
set_option maxHeartbeats 8000000 in
theorem codeBack_10 (H : CodeOk) (HSP : SpecOk) (s : Sp) (A : Option Addr) (n c : Nat) (w : World) (hs : SAsk s) (hn : n ≤ maxLen) (hG : Glob w) (hr : rightS s = true) (hbig : 300 < n) :
    Calls Try.prog 4 #[.agg #[.int .i64 s.nodes, .int .i64 s.cores, .int .i64 s.gpus, .string s.tag, .bool s.whole, .int .i64 s.long, .int .i64 s.prio], .slice A n c] w fun e w' => e = .returned (.bool true) ∧ Below w.heap.size w w' := by
  have HS := Lib.hid hs
  obtain ⟨W, hW⟩ : ∃ W, W = w.alloc (spO s) := ⟨_, rfl⟩
  have BX : Hid (BoxS W w.heap.size s) := Lib.hid (by rw [hW]; exact box_new w s)
  have hb0 : Below w.heap.size w W := by rw [hW]; exact (Below.refl _ _).alloc (Nat.le_refl _) _
  have HB := Lib.hid hb0
  have HG := Lib.hid (hG.next hb0)
  have HR := Lib.hid hr
  unfold maxLen at hn
  unfold spO at hW
  have PS := Lib.hid (spec_backQ hr).1
  have RS := Lib.hid (spec_backQ hr).2
  have LS : Hid ((specB s).length ≤ 20000) := Lib.hid (Nat.le_trans (specB_len hr) (by omega))
  have hd : decide ((n : Int) ≤ 300) = false := by simp; omega
  have hall : ∀ p ∈ ([specB s] : List Bs), IsPart p := fun p hp => by
    simp at hp
    subst hp
    exact back_spec hr
  have PP := Lib.hid (list_backQ (ps := [specB s]) (by simp) hall).1
  have RPP := Lib.hid (list_backQ (ps := [specB s]) (by simp) hall).2
  have hfl := flatten_sum [specB s] 4700 (fun p hp => part_len (hall p hp))
  have hpl : ([specB s] : List Bs).length ≤ 3 := by simp
  have hmul : ([specB s] : List Bs).length * 4700 ≤ 3 * 4700 := Nat.mul_le_mul_right 4700 hpl
  have LP : Hid (([specB s] : List Bs).flatten.length ≤ 100000) := Lib.hid (by omega)
  have LB : Hid ((listB [specB s]).length ≤ 20000) := Lib.hid (by
    have := numB_len (n := ([specB s] : List Bs).length) (by omega)
    unfold listB
    rw [List.length_cons, List.length_append]
    omega)
  clear hs hG hr hb0 hall hfl hpl hmul hbig
  go_enter Try.func4, Try.ntmps4
  go_wp2_with fail
  rw [← hW]
  refine (awake8_any H _ HG.out).mono ?_
  rintro e w1 ⟨rfl, hb⟩
  have HBq := Lib.hid (HB.out.trans (hb.mono HB.out.size))
  clear HB
  have HB := HBq
  clear HBq
  have HGq := Lib.hid (HG.out.next hb)
  clear HG
  have HG := HGq
  clear HGq
  have BXq := Lib.hid (BX.out.next hb)
  clear BX
  have BX := BXq
  clear BXq
  clear hb
  clear hW
  have HB_ := HB
  have HG_ := HG
  have BX_ := BX
  have HPT : Hid (PON w1 (.slice none 0 0) [] w1) := Lib.hid (PON.nil w1)
  have q0 := BX.out.c0
  have q1 := BX.out.c1
  have q2 := BX.out.c2
  have q3 := BX.out.c3
  have q4 := BX.out.c4
  have q5 := BX.out.c5
  have q6 := BX.out.c6
  go_wp2_with fail
  refine (s7_right HSP HS.out HG.out HR.out).mono ?_
  rintro e w2 ⟨rfl, hb⟩
  have HBq := Lib.hid (HB.out.trans (hb.mono HB.out.size))
  clear HB
  have HB := HBq
  clear HBq
  have HGq := Lib.hid (HG.out.next hb)
  clear HG
  have HG := HGq
  clear HGq
  have BXq := Lib.hid (BX.out.next hb)
  clear BX
  have BX := BXq
  clear BXq
  have HPTq := Lib.hid (HPT.out.next hb)
  clear HPT
  have HPT := HPTq
  clear HPTq
  clear hb
  clear q0 q1 q2 q3 q4 q5 q6
  have q0 := BX.out.c0
  have q1 := BX.out.c1
  have q2 := BX.out.c2
  have q3 := BX.out.c3
  have q4 := BX.out.c4
  have q5 := BX.out.c5
  have q6 := BX.out.c6
  go_wp2_with fail
  refine (c8_spec H HG.out HS.out PS.out).mono ?_
  rintro e w3 ⟨⟨A3, c3, rfl, ha3, hn3⟩, hb⟩
  have hpn := pn_new HPT.out hb ha3 hn3
  have HBq := Lib.hid (HB.out.trans (hb.mono HB.out.size))
  clear HB
  have HB := HBq
  clear HBq
  have HGq := Lib.hid (HG.out.next hb)
  clear HG
  have HG := HGq
  clear HGq
  have BXq := Lib.hid (BX.out.next hb)
  clear BX
  have BX := BXq
  clear BXq
  have HPTq := Lib.hid (HPT.out.next hb)
  clear HPT
  have HPT := HPTq
  clear HPTq
  clear hb
  have F3 := Lib.hid ha3
  have PN3 := Lib.hid hpn
  clear ha3 hn3 hpn
  clear q0 q1 q2 q3 q4 q5 q6
  go_wp2_with fail
  refine (c8_readSpec H HG.out F3.out LS.out RS.out).mono ?_
  rintro e w4 ⟨rfl, hb⟩
  have HBq := Lib.hid (HB.out.trans (hb.mono HB.out.size))
  clear HB
  have HB := HBq
  clear HBq
  have HGq := Lib.hid (HG.out.next hb)
  clear HG
  have HG := HGq
  clear HGq
  have BXq := Lib.hid (BX.out.next hb)
  clear BX
  have BX := BXq
  clear BXq
  have HPTq := Lib.hid (HPT.out.next hb)
  clear HPT
  have HPT := HPTq
  clear HPTq
  have F3q := Lib.hid (F3.out.next hb)
  clear F3
  have F3 := F3q
  clear F3q
  have PN3q := Lib.hid (PN3.out.next hb)
  clear PN3
  have PN3 := PN3q
  clear PN3q
  clear hb
  have hb := Below.alloc (Below.refl w4.heap.size w4) (Nat.le_refl _) (.cells #[.int .i64 s.nodes, .int .i64 s.cores, .int .i64 s.gpus, .string s.tag, .bool s.whole, .int .i64 s.long, .int .i64 s.prio] 23)
  have HBq := Lib.hid (HB.out.trans (hb.mono HB.out.size))
  clear HB
  have HB := HBq
  clear HBq
  have HGq := Lib.hid (HG.out.next hb)
  clear HG
  have HG := HGq
  clear HGq
  have BXq := Lib.hid (BX.out.next hb)
  clear BX
  have BX := BXq
  clear BXq
  have HPTq := Lib.hid (HPT.out.next hb)
  clear HPT
  have HPT := HPTq
  clear HPTq
  have F3q := Lib.hid (F3.out.next hb)
  clear F3
  have F3 := F3q
  clear F3q
  have PN3q := Lib.hid (PN3.out.next hb)
  clear PN3
  have PN3 := PN3q
  clear PN3q
  clear hb
  have q0 := BX.out.c0
  have q1 := BX.out.c1
  have q2 := BX.out.c2
  have q3 := BX.out.c3
  have q4 := BX.out.c4
  have q5 := BX.out.c5
  have q6 := BX.out.c6
  clear F3
  go_wp2_with (at_builtin; refine wpList_append_P1 rfl (.tmp 43) (.tmp 45) rfl HPT.out rfl _ _ _ _ PN3.out (by rw [size_alloc]; rfl) (by simp) ?_; intro v5 w5 hON; refine Hid.out ?_)
  refine Lib.hid ?_
  clear HPT PN3 HB HG BX
  have HPT : Hid (PON w1 v5 [specB s] w5) := Lib.hid hON
  clear hON
  have HB := Lib.hid (HB_.out.trans (HPT.out.below.mono HB_.out.size))
  have HG := Lib.hid (HG_.out.next HPT.out.below)
  have BX := Lib.hid (BX_.out.next HPT.out.below)
  clear q0 q1 q2 q3 q4 q5 q6
  obtain ⟨Ap, cp, rfl, hpa⟩ := HPT.out.pask (by simp)
  have HPA := Lib.hid hpa
  clear hpa
  clear HPT
  go_wp2_with fail
  refine (c8_list H HG.out HPA.out LP.out PP.out).mono ?_
  rintro e w5 ⟨⟨A10, c10, rfl, ha10⟩, hb⟩
  have HBq := Lib.hid (HB.out.trans (hb.mono HB.out.size))
  clear HB
  have HB := HBq
  clear HBq
  have HGq := Lib.hid (HG.out.next hb)
  clear HG
  have HG := HGq
  clear HGq
  have BXq := Lib.hid (BX.out.next hb)
  clear BX
  have BX := BXq
  clear BXq
  have HPAq := Lib.hid (HPA.out.next hb)
  clear HPA
  have HPA := HPAq
  clear HPAq
  clear hb
  have F10 := Lib.hid ha10
  clear ha10
  go_wp2_with fail
  refine (c8_readList H HG.out F10.out LB.out RPP.out).mono ?_
  rintro e w6 ⟨⟨A11, c11, rfl, ha11⟩, hb⟩
  have HBq := Lib.hid (HB.out.trans (hb.mono HB.out.size))
  clear HB
  have HB := HBq
  clear HBq
  have HGq := Lib.hid (HG.out.next hb)
  clear HG
  have HG := HGq
  clear HGq
  have BXq := Lib.hid (BX.out.next hb)
  clear BX
  have BX := BXq
  clear BXq
  have HPAq := Lib.hid (HPA.out.next hb)
  clear HPA
  have HPA := HPAq
  clear HPAq
  have F10q := Lib.hid (F10.out.next hb)
  clear F10
  have F10 := F10q
  clear F10q
  clear hb
  have F11 := Lib.hid ha11
  clear ha11
  go_wp2_with fail
  refine (r8_same F11.out HPA.out rfl).mono ?_
  rintro e w7 ⟨rfl, hb⟩
  have HBq := Lib.hid (HB.out.trans (hb.mono HB.out.size))
  clear HB
  have HB := HBq
  clear HBq
  have HGq := Lib.hid (HG.out.next hb)
  clear HG
  have HG := HGq
  clear HGq
  have BXq := Lib.hid (BX.out.next hb)
  clear BX
  have BX := BXq
  clear BXq
  have HPAq := Lib.hid (HPA.out.next hb)
  clear HPA
  have HPA := HPAq
  clear HPAq
  have F10q := Lib.hid (F10.out.next hb)
  clear F10
  have F10 := F10q
  clear F10q
  have F11q := Lib.hid (F11.out.next hb)
  clear F11
  have F11 := F11q
  clear F11q
  clear hb
  go_wp2
  go_ret
  exact ⟨rfl, HB.out⟩

set_option maxRecDepth 100000 in
set_option maxHeartbeats 8000000 in
theorem codeBack_11 (H : CodeOk) (HSP : SpecOk) (s : Sp) (A : Option Addr) (n c : Nat) (l : List Int) (w : World) (hs : SAsk s) (hr0 : RI w w.heap.size A n l) (hj : ∀ x ∈ l, I64 x) (hnil : A = none → c = 0) (hnc : n ≤ c) (hn : n ≤ maxLen) (hG : Glob w) (hr : rightS s = true) (hle : n ≤ 300) (hb1 : rightB l = false) :
    Calls Try.prog 4 #[.agg #[.int .i64 s.nodes, .int .i64 s.cores, .int .i64 s.gpus, .string s.tag, .bool s.whole, .int .i64 s.long, .int .i64 s.prio], .slice A n c] w fun e w' => e = .returned (.bool true) ∧ Below w.heap.size w w' := by
  have HS := Lib.hid hs
  obtain ⟨W, hW⟩ : ∃ W, W = w.alloc (spO s) := ⟨_, rfl⟩
  have BX : Hid (BoxS W w.heap.size s) := Lib.hid (by rw [hW]; exact box_new w s)
  have hb0 : Below w.heap.size w W := by rw [hW]; exact (Below.refl _ _).alloc (Nat.le_refl _) _
  have HB := Lib.hid hb0
  have HG := Lib.hid (hG.next hb0)
  have HR := Lib.hid hr
  unfold maxLen at hn
  unfold spO at hW
  have PS := Lib.hid (spec_backQ hr).1
  have RS := Lib.hid (spec_backQ hr).2
  have LS : Hid ((specB s).length ≤ 20000) := Lib.hid (Nat.le_trans (specB_len hr) (by omega))
  have hd : decide ((n : Int) ≤ 300) = true := by simp; omega
  have HL : Hid (LAsk W A n c l) := Lib.hid ⟨hr0.next hb0, hnil, hnc, by omega, hj⟩
  have RB1 := Lib.hid hb1
  have HLN : Hid (l.length = n) := Lib.hid hr0.1
  have hall : ∀ p ∈ ([specB s] : List Bs), IsPart p := fun p hp => by
    simp at hp
    subst hp
    exact back_spec hr
  have PP := Lib.hid (list_backQ (ps := [specB s]) (by simp) hall).1
  have RPP := Lib.hid (list_backQ (ps := [specB s]) (by simp) hall).2
  have hfl := flatten_sum [specB s] 4700 (fun p hp => part_len (hall p hp))
  have hpl : ([specB s] : List Bs).length ≤ 3 := by simp
  have hmul : ([specB s] : List Bs).length * 4700 ≤ 3 * 4700 := Nat.mul_le_mul_right 4700 hpl
  have LP : Hid (([specB s] : List Bs).flatten.length ≤ 100000) := Lib.hid (by omega)
  have LB : Hid ((listB [specB s]).length ≤ 20000) := Lib.hid (by
    have := numB_len (n := ([specB s] : List Bs).length) (by omega)
    unfold listB
    rw [List.length_cons, List.length_append]
    omega)
  clear hs hG hr hb0 hall hfl hpl hmul hr0 hj hnil hnc hb1 hle
  go_enter Try.func4, Try.ntmps4
  go_wp2_with fail
  rw [← hW]
  refine (awake8_any H _ HG.out).mono ?_
  rintro e w1 ⟨rfl, hb⟩
  have HBq := Lib.hid (HB.out.trans (hb.mono HB.out.size))
  clear HB
  have HB := HBq
  clear HBq
  have HGq := Lib.hid (HG.out.next hb)
  clear HG
  have HG := HGq
  clear HGq
  have BXq := Lib.hid (BX.out.next hb)
  clear BX
  have BX := BXq
  clear BXq
  have HLq := Lib.hid (HL.out.next hb)
  clear HL
  have HL := HLq
  clear HLq
  clear hb
  clear hW
  have HB_ := HB
  have HG_ := HG
  have BX_ := BX
  have HL_ := HL
  have HPT : Hid (PON w1 (.slice none 0 0) [] w1) := Lib.hid (PON.nil w1)
  have q0 := BX.out.c0
  have q1 := BX.out.c1
  have q2 := BX.out.c2
  have q3 := BX.out.c3
  have q4 := BX.out.c4
  have q5 := BX.out.c5
  have q6 := BX.out.c6
  go_wp2_with fail
  refine (s7_right HSP HS.out HG.out HR.out).mono ?_
  rintro e w2 ⟨rfl, hb⟩
  have HBq := Lib.hid (HB.out.trans (hb.mono HB.out.size))
  clear HB
  have HB := HBq
  clear HBq
  have HGq := Lib.hid (HG.out.next hb)
  clear HG
  have HG := HGq
  clear HGq
  have BXq := Lib.hid (BX.out.next hb)
  clear BX
  have BX := BXq
  clear BXq
  have HLq := Lib.hid (HL.out.next hb)
  clear HL
  have HL := HLq
  clear HLq
  have HPTq := Lib.hid (HPT.out.next hb)
  clear HPT
  have HPT := HPTq
  clear HPTq
  clear hb
  clear q0 q1 q2 q3 q4 q5 q6
  have q0 := BX.out.c0
  have q1 := BX.out.c1
  have q2 := BX.out.c2
  have q3 := BX.out.c3
  have q4 := BX.out.c4
  have q5 := BX.out.c5
  have q6 := BX.out.c6
  go_wp2_with fail
  refine (c8_spec H HG.out HS.out PS.out).mono ?_
  rintro e w3 ⟨⟨A3, c3, rfl, ha3, hn3⟩, hb⟩
  have hpn := pn_new HPT.out hb ha3 hn3
  have HBq := Lib.hid (HB.out.trans (hb.mono HB.out.size))
  clear HB
  have HB := HBq
  clear HBq
  have HGq := Lib.hid (HG.out.next hb)
  clear HG
  have HG := HGq
  clear HGq
  have BXq := Lib.hid (BX.out.next hb)
  clear BX
  have BX := BXq
  clear BXq
  have HLq := Lib.hid (HL.out.next hb)
  clear HL
  have HL := HLq
  clear HLq
  have HPTq := Lib.hid (HPT.out.next hb)
  clear HPT
  have HPT := HPTq
  clear HPTq
  clear hb
  have F3 := Lib.hid ha3
  have PN3 := Lib.hid hpn
  clear ha3 hn3 hpn
  clear q0 q1 q2 q3 q4 q5 q6
  go_wp2_with fail
  refine (c8_readSpec H HG.out F3.out LS.out RS.out).mono ?_
  rintro e w4 ⟨rfl, hb⟩
  have HBq := Lib.hid (HB.out.trans (hb.mono HB.out.size))
  clear HB
  have HB := HBq
  clear HBq
  have HGq := Lib.hid (HG.out.next hb)
  clear HG
  have HG := HGq
  clear HGq
  have BXq := Lib.hid (BX.out.next hb)
  clear BX
  have BX := BXq
  clear BXq
  have HLq := Lib.hid (HL.out.next hb)
  clear HL
  have HL := HLq
  clear HLq
  have HPTq := Lib.hid (HPT.out.next hb)
  clear HPT
  have HPT := HPTq
  clear HPTq
  have F3q := Lib.hid (F3.out.next hb)
  clear F3
  have F3 := F3q
  clear F3q
  have PN3q := Lib.hid (PN3.out.next hb)
  clear PN3
  have PN3 := PN3q
  clear PN3q
  clear hb
  have hb := Below.alloc (Below.refl w4.heap.size w4) (Nat.le_refl _) (.cells #[.int .i64 s.nodes, .int .i64 s.cores, .int .i64 s.gpus, .string s.tag, .bool s.whole, .int .i64 s.long, .int .i64 s.prio] 23)
  have HBq := Lib.hid (HB.out.trans (hb.mono HB.out.size))
  clear HB
  have HB := HBq
  clear HBq
  have HGq := Lib.hid (HG.out.next hb)
  clear HG
  have HG := HGq
  clear HGq
  have BXq := Lib.hid (BX.out.next hb)
  clear BX
  have BX := BXq
  clear BXq
  have HLq := Lib.hid (HL.out.next hb)
  clear HL
  have HL := HLq
  clear HLq
  have HPTq := Lib.hid (HPT.out.next hb)
  clear HPT
  have HPT := HPTq
  clear HPTq
  have F3q := Lib.hid (F3.out.next hb)
  clear F3
  have F3 := F3q
  clear F3q
  have PN3q := Lib.hid (PN3.out.next hb)
  clear PN3
  have PN3 := PN3q
  clear PN3q
  clear hb
  have q0 := BX.out.c0
  have q1 := BX.out.c1
  have q2 := BX.out.c2
  have q3 := BX.out.c3
  have q4 := BX.out.c4
  have q5 := BX.out.c5
  have q6 := BX.out.c6
  clear F3
  go_wp2_with (at_builtin; refine wpList_append_P1 rfl (.tmp 43) (.tmp 45) rfl HPT.out rfl _ _ _ _ PN3.out (by rw [size_alloc]; rfl) (by simp) ?_; intro v5 w5 hON; refine Hid.out ?_)
  refine Lib.hid ?_
  clear HPT PN3 HB HG BX HL
  have HPT : Hid (PON w1 v5 [specB s] w5) := Lib.hid hON
  clear hON
  have HB := Lib.hid (HB_.out.trans (HPT.out.below.mono HB_.out.size))
  have HG := Lib.hid (HG_.out.next HPT.out.below)
  have BX := Lib.hid (BX_.out.next HPT.out.below)
  have HL := Lib.hid (HL_.out.next HPT.out.below)
  clear q0 q1 q2 q3 q4 q5 q6
  go_wp2_with fail
  refine (s_isSet HL.out.reads (ml300 HL.out.few) RB1.out).mono ?_
  rintro e w5 ⟨rfl, hb⟩
  have HBq := Lib.hid (HB.out.trans (hb.mono HB.out.size))
  clear HB
  have HB := HBq
  clear HBq
  have HGq := Lib.hid (HG.out.next hb)
  clear HG
  have HG := HGq
  clear HGq
  have BXq := Lib.hid (BX.out.next hb)
  clear BX
  have BX := BXq
  clear BXq
  have HLq := Lib.hid (HL.out.next hb)
  clear HL
  have HL := HLq
  clear HLq
  have HPTq := Lib.hid (HPT.out.next hb)
  clear HPT
  have HPT := HPTq
  clear HPTq
  clear hb
  obtain ⟨Ap, cp, rfl, hpa⟩ := HPT.out.pask (by simp)
  have HPA := Lib.hid hpa
  clear hpa
  clear HPT
  go_wp2_with fail
  refine (c8_list H HG.out HPA.out LP.out PP.out).mono ?_
  rintro e w6 ⟨⟨A10, c10, rfl, ha10⟩, hb⟩
  have HBq := Lib.hid (HB.out.trans (hb.mono HB.out.size))
  clear HB
  have HB := HBq
  clear HBq
  have HGq := Lib.hid (HG.out.next hb)
  clear HG
  have HG := HGq
  clear HGq
  have BXq := Lib.hid (BX.out.next hb)
  clear BX
  have BX := BXq
  clear BXq
  have HLq := Lib.hid (HL.out.next hb)
  clear HL
  have HL := HLq
  clear HLq
  have HPAq := Lib.hid (HPA.out.next hb)
  clear HPA
  have HPA := HPAq
  clear HPAq
  clear hb
  have F10 := Lib.hid ha10
  clear ha10
  go_wp2_with fail
  refine (c8_readList H HG.out F10.out LB.out RPP.out).mono ?_
  rintro e w7 ⟨⟨A11, c11, rfl, ha11⟩, hb⟩
  have HBq := Lib.hid (HB.out.trans (hb.mono HB.out.size))
  clear HB
  have HB := HBq
  clear HBq
  have HGq := Lib.hid (HG.out.next hb)
  clear HG
  have HG := HGq
  clear HGq
  have BXq := Lib.hid (BX.out.next hb)
  clear BX
  have BX := BXq
  clear BXq
  have HLq := Lib.hid (HL.out.next hb)
  clear HL
  have HL := HLq
  clear HLq
  have HPAq := Lib.hid (HPA.out.next hb)
  clear HPA
  have HPA := HPAq
  clear HPAq
  have F10q := Lib.hid (F10.out.next hb)
  clear F10
  have F10 := F10q
  clear F10q
  clear hb
  have F11 := Lib.hid ha11
  clear ha11
  go_wp2_with fail
  refine (r8_same F11.out HPA.out rfl).mono ?_
  rintro e w8 ⟨rfl, hb⟩
  have HBq := Lib.hid (HB.out.trans (hb.mono HB.out.size))
  clear HB
  have HB := HBq
  clear HBq
  have HGq := Lib.hid (HG.out.next hb)
  clear HG
  have HG := HGq
  clear HGq
  have BXq := Lib.hid (BX.out.next hb)
  clear BX
  have BX := BXq
  clear BXq
  have HLq := Lib.hid (HL.out.next hb)
  clear HL
  have HL := HLq
  clear HLq
  have HPAq := Lib.hid (HPA.out.next hb)
  clear HPA
  have HPA := HPAq
  clear HPAq
  have F10q := Lib.hid (F10.out.next hb)
  clear F10
  have F10 := F10q
  clear F10q
  have F11q := Lib.hid (F11.out.next hb)
  clear F11
  have F11 := F11q
  clear F11q
  clear hb
  go_wp2
  go_ret
  exact ⟨rfl, HB.out⟩

set_option maxRecDepth 100000 in
set_option maxHeartbeats 8000000 in
theorem codeBack_12 (H : CodeOk) (HSP : SpecOk) (s : Sp) (A : Option Addr) (n c : Nat) (l : List Int) (w : World) (hs : SAsk s) (hr0 : RI w w.heap.size A n l) (hj : ∀ x ∈ l, I64 x) (hnil : A = none → c = 0) (hnc : n ≤ c) (hn : n ≤ maxLen) (hG : Glob w) (hr : rightS s = true) (hle : n ≤ 300) (hb1 : rightB l = true) :
    Calls Try.prog 4 #[.agg #[.int .i64 s.nodes, .int .i64 s.cores, .int .i64 s.gpus, .string s.tag, .bool s.whole, .int .i64 s.long, .int .i64 s.prio], .slice A n c] w fun e w' => e = .returned (.bool true) ∧ Below w.heap.size w w' := by
  have HS := Lib.hid hs
  obtain ⟨W, hW⟩ : ∃ W, W = w.alloc (spO s) := ⟨_, rfl⟩
  have BX : Hid (BoxS W w.heap.size s) := Lib.hid (by rw [hW]; exact box_new w s)
  have hb0 : Below w.heap.size w W := by rw [hW]; exact (Below.refl _ _).alloc (Nat.le_refl _) _
  have HB := Lib.hid hb0
  have HG := Lib.hid (hG.next hb0)
  have HR := Lib.hid hr
  unfold maxLen at hn
  unfold spO at hW
  have PS := Lib.hid (spec_backQ hr).1
  have RS := Lib.hid (spec_backQ hr).2
  have LS : Hid ((specB s).length ≤ 20000) := Lib.hid (Nat.le_trans (specB_len hr) (by omega))
  have hd : decide ((n : Int) ≤ 300) = true := by simp; omega
  have HL : Hid (LAsk W A n c l) := Lib.hid ⟨hr0.next hb0, hnil, hnc, by omega, hj⟩
  have RB1 := Lib.hid hb1
  have HLN : Hid (l.length = n) := Lib.hid hr0.1
  have PL := Lib.hid (set_backQ hb1).1
  have RL := Lib.hid (set_backQ hb1).2
  have LL : Hid ((setB l).length ≤ 20000) := Lib.hid (Nat.le_trans (setB_len hb1) (by omega))
  have hall : ∀ p ∈ (([specB s] ++ [setB l, setB l]) : List Bs), IsPart p := fun p hp => by
    simp at hp
    rcases hp with rfl | rfl
    · exact back_spec hr
    · exact back_set hb1
  have PP := Lib.hid (list_backQ (ps := ([specB s] ++ [setB l, setB l])) (by simp) hall).1
  have RPP := Lib.hid (list_backQ (ps := ([specB s] ++ [setB l, setB l])) (by simp) hall).2
  have hfl := flatten_sum ([specB s] ++ [setB l, setB l]) 4700 (fun p hp => part_len (hall p hp))
  have hpl : (([specB s] ++ [setB l, setB l]) : List Bs).length ≤ 3 := by simp
  have hmul : (([specB s] ++ [setB l, setB l]) : List Bs).length * 4700 ≤ 3 * 4700 := Nat.mul_le_mul_right 4700 hpl
  have LP : Hid ((([specB s] ++ [setB l, setB l]) : List Bs).flatten.length ≤ 100000) := Lib.hid (by omega)
  have LB : Hid ((listB ([specB s] ++ [setB l, setB l])).length ≤ 20000) := Lib.hid (by
    have := numB_len (n := (([specB s] ++ [setB l, setB l]) : List Bs).length) (by omega)
    unfold listB
    rw [List.length_cons, List.length_append]
    omega)
  clear hs hG hr hb0 hall hfl hpl hmul hr0 hj hnil hnc hb1 hle
  go_enter Try.func4, Try.ntmps4
  go_wp2_with fail
  rw [← hW]
  refine (awake8_any H _ HG.out).mono ?_
  rintro e w1 ⟨rfl, hb⟩
  have HBq := Lib.hid (HB.out.trans (hb.mono HB.out.size))
  clear HB
  have HB := HBq
  clear HBq
  have HGq := Lib.hid (HG.out.next hb)
  clear HG
  have HG := HGq
  clear HGq
  have BXq := Lib.hid (BX.out.next hb)
  clear BX
  have BX := BXq
  clear BXq
  have HLq := Lib.hid (HL.out.next hb)
  clear HL
  have HL := HLq
  clear HLq
  clear hb
  clear hW
  have HB_ := HB
  have HG_ := HG
  have BX_ := BX
  have HL_ := HL
  have HPT : Hid (PON w1 (.slice none 0 0) [] w1) := Lib.hid (PON.nil w1)
  have q0 := BX.out.c0
  have q1 := BX.out.c1
  have q2 := BX.out.c2
  have q3 := BX.out.c3
  have q4 := BX.out.c4
  have q5 := BX.out.c5
  have q6 := BX.out.c6
  go_wp2_with fail
  refine (s7_right HSP HS.out HG.out HR.out).mono ?_
  rintro e w2 ⟨rfl, hb⟩
  have HBq := Lib.hid (HB.out.trans (hb.mono HB.out.size))
  clear HB
  have HB := HBq
  clear HBq
  have HGq := Lib.hid (HG.out.next hb)
  clear HG
  have HG := HGq
  clear HGq
  have BXq := Lib.hid (BX.out.next hb)
  clear BX
  have BX := BXq
  clear BXq
  have HLq := Lib.hid (HL.out.next hb)
  clear HL
  have HL := HLq
  clear HLq
  have HPTq := Lib.hid (HPT.out.next hb)
  clear HPT
  have HPT := HPTq
  clear HPTq
  clear hb
  clear q0 q1 q2 q3 q4 q5 q6
  have q0 := BX.out.c0
  have q1 := BX.out.c1
  have q2 := BX.out.c2
  have q3 := BX.out.c3
  have q4 := BX.out.c4
  have q5 := BX.out.c5
  have q6 := BX.out.c6
  go_wp2_with fail
  refine (c8_spec H HG.out HS.out PS.out).mono ?_
  rintro e w3 ⟨⟨A3, c3, rfl, ha3, hn3⟩, hb⟩
  have hpn := pn_new HPT.out hb ha3 hn3
  have HBq := Lib.hid (HB.out.trans (hb.mono HB.out.size))
  clear HB
  have HB := HBq
  clear HBq
  have HGq := Lib.hid (HG.out.next hb)
  clear HG
  have HG := HGq
  clear HGq
  have BXq := Lib.hid (BX.out.next hb)
  clear BX
  have BX := BXq
  clear BXq
  have HLq := Lib.hid (HL.out.next hb)
  clear HL
  have HL := HLq
  clear HLq
  have HPTq := Lib.hid (HPT.out.next hb)
  clear HPT
  have HPT := HPTq
  clear HPTq
  clear hb
  have F3 := Lib.hid ha3
  have PN3 := Lib.hid hpn
  clear ha3 hn3 hpn
  clear q0 q1 q2 q3 q4 q5 q6
  go_wp2_with fail
  refine (c8_readSpec H HG.out F3.out LS.out RS.out).mono ?_
  rintro e w4 ⟨rfl, hb⟩
  have HBq := Lib.hid (HB.out.trans (hb.mono HB.out.size))
  clear HB
  have HB := HBq
  clear HBq
  have HGq := Lib.hid (HG.out.next hb)
  clear HG
  have HG := HGq
  clear HGq
  have BXq := Lib.hid (BX.out.next hb)
  clear BX
  have BX := BXq
  clear BXq
  have HLq := Lib.hid (HL.out.next hb)
  clear HL
  have HL := HLq
  clear HLq
  have HPTq := Lib.hid (HPT.out.next hb)
  clear HPT
  have HPT := HPTq
  clear HPTq
  have F3q := Lib.hid (F3.out.next hb)
  clear F3
  have F3 := F3q
  clear F3q
  have PN3q := Lib.hid (PN3.out.next hb)
  clear PN3
  have PN3 := PN3q
  clear PN3q
  clear hb
  have hb := Below.alloc (Below.refl w4.heap.size w4) (Nat.le_refl _) (.cells #[.int .i64 s.nodes, .int .i64 s.cores, .int .i64 s.gpus, .string s.tag, .bool s.whole, .int .i64 s.long, .int .i64 s.prio] 23)
  have HBq := Lib.hid (HB.out.trans (hb.mono HB.out.size))
  clear HB
  have HB := HBq
  clear HBq
  have HGq := Lib.hid (HG.out.next hb)
  clear HG
  have HG := HGq
  clear HGq
  have BXq := Lib.hid (BX.out.next hb)
  clear BX
  have BX := BXq
  clear BXq
  have HLq := Lib.hid (HL.out.next hb)
  clear HL
  have HL := HLq
  clear HLq
  have HPTq := Lib.hid (HPT.out.next hb)
  clear HPT
  have HPT := HPTq
  clear HPTq
  have F3q := Lib.hid (F3.out.next hb)
  clear F3
  have F3 := F3q
  clear F3q
  have PN3q := Lib.hid (PN3.out.next hb)
  clear PN3
  have PN3 := PN3q
  clear PN3q
  clear hb
  have q0 := BX.out.c0
  have q1 := BX.out.c1
  have q2 := BX.out.c2
  have q3 := BX.out.c3
  have q4 := BX.out.c4
  have q5 := BX.out.c5
  have q6 := BX.out.c6
  clear F3
  go_wp2_with (at_builtin; refine wpList_append_P1 rfl (.tmp 43) (.tmp 45) rfl HPT.out rfl _ _ _ _ PN3.out (by rw [size_alloc]; rfl) (by simp) ?_; intro v5 w5 hON; refine Hid.out ?_)
  refine Lib.hid ?_
  clear HPT PN3 HB HG BX HL
  have HPT : Hid (PON w1 v5 [specB s] w5) := Lib.hid hON
  clear hON
  have HB := Lib.hid (HB_.out.trans (HPT.out.below.mono HB_.out.size))
  have HG := Lib.hid (HG_.out.next HPT.out.below)
  have BX := Lib.hid (BX_.out.next HPT.out.below)
  have HL := Lib.hid (HL_.out.next HPT.out.below)
  clear q0 q1 q2 q3 q4 q5 q6
  go_wp2_with fail
  refine (s_isSet HL.out.reads (ml300 HL.out.few) RB1.out).mono ?_
  rintro e w5 ⟨rfl, hb⟩
  have HBq := Lib.hid (HB.out.trans (hb.mono HB.out.size))
  clear HB
  have HB := HBq
  clear HBq
  have HGq := Lib.hid (HG.out.next hb)
  clear HG
  have HG := HGq
  clear HGq
  have BXq := Lib.hid (BX.out.next hb)
  clear BX
  have BX := BXq
  clear BXq
  have HLq := Lib.hid (HL.out.next hb)
  clear HL
  have HL := HLq
  clear HLq
  have HPTq := Lib.hid (HPT.out.next hb)
  clear HPT
  have HPT := HPTq
  clear HPTq
  clear hb
  go_wp2_with fail
  refine (c8_set H HG.out HL.out PL.out).mono ?_
  rintro e w6 ⟨⟨A7, c7, rfl, ha7, hn7⟩, hb⟩
  have hpn := pn_new HPT.out hb ha7 hn7
  have HBq := Lib.hid (HB.out.trans (hb.mono HB.out.size))
  clear HB
  have HB := HBq
  clear HBq
  have HGq := Lib.hid (HG.out.next hb)
  clear HG
  have HG := HGq
  clear HGq
  have BXq := Lib.hid (BX.out.next hb)
  clear BX
  have BX := BXq
  clear BXq
  have HLq := Lib.hid (HL.out.next hb)
  clear HL
  have HL := HLq
  clear HLq
  have HPTq := Lib.hid (HPT.out.next hb)
  clear HPT
  have HPT := HPTq
  clear HPTq
  clear hb
  have F7 := Lib.hid ha7
  have PN7 := Lib.hid hpn
  clear ha7 hn7 hpn
  go_wp2_with fail
  refine (c8_readSet H HG.out F7.out LL.out RL.out).mono ?_
  rintro e w7 ⟨⟨A8, c8, rfl, hr8, hz8, hc8⟩, hb⟩
  rw [HLN.out] at hr8 ⊢
  have HBq := Lib.hid (HB.out.trans (hb.mono HB.out.size))
  clear HB
  have HB := HBq
  clear HBq
  have HGq := Lib.hid (HG.out.next hb)
  clear HG
  have HG := HGq
  clear HGq
  have BXq := Lib.hid (BX.out.next hb)
  clear BX
  have BX := BXq
  clear BXq
  have HLq := Lib.hid (HL.out.next hb)
  clear HL
  have HL := HLq
  clear HLq
  have HPTq := Lib.hid (HPT.out.next hb)
  clear HPT
  have HPT := HPTq
  clear HPTq
  have F7q := Lib.hid (F7.out.next hb)
  clear F7
  have F7 := F7q
  clear F7q
  have PN7q := Lib.hid (PN7.out.next hb)
  clear PN7
  have PN7 := PN7q
  clear PN7q
  clear hb
  have F8 := Lib.hid hr8
  clear hr8 hz8 hc8
  go_wp2_with fail
  refine (ri_same HL.out.reads F8.out (ml300 HL.out.few) (ml300 HL.out.few) (same_self l)).mono ?_
  rintro e w8 ⟨rfl, hb⟩
  have HBq := Lib.hid (HB.out.trans (hb.mono HB.out.size))
  clear HB
  have HB := HBq
  clear HBq
  have HGq := Lib.hid (HG.out.next hb)
  clear HG
  have HG := HGq
  clear HGq
  have BXq := Lib.hid (BX.out.next hb)
  clear BX
  have BX := BXq
  clear BXq
  have HLq := Lib.hid (HL.out.next hb)
  clear HL
  have HL := HLq
  clear HLq
  have HPTq := Lib.hid (HPT.out.next hb)
  clear HPT
  have HPT := HPTq
  clear HPTq
  have F7q := Lib.hid (F7.out.next hb)
  clear F7
  have F7 := F7q
  clear F7q
  have PN7q := Lib.hid (PN7.out.next hb)
  clear PN7
  have PN7 := PN7q
  clear PN7q
  have F8q := Lib.hid (F8.out.next hb)
  clear F8
  have F8 := F8q
  clear F8q
  clear hb
  clear F7
  clear F8
  go_wp2_with (at_builtin; refine wpList_append_P2 rfl (.tmp 76) (.tmp 79) rfl HPT.out rfl _ _ _ _ PN7.out rfl (by simp) ?_; intro v9 w9 hON; refine Hid.out ?_)
  refine Lib.hid ?_
  clear HPT PN7 HB HG BX HL
  have HPT : Hid (PON w1 v9 ([specB s] ++ [setB l, setB l]) w9) := Lib.hid hON
  clear hON
  have HB := Lib.hid (HB_.out.trans (HPT.out.below.mono HB_.out.size))
  have HG := Lib.hid (HG_.out.next HPT.out.below)
  have BX := Lib.hid (BX_.out.next HPT.out.below)
  have HL := Lib.hid (HL_.out.next HPT.out.below)
  obtain ⟨Ap, cp, rfl, hpa⟩ := HPT.out.pask (by simp)
  have HPA := Lib.hid hpa
  clear hpa
  clear HPT
  go_wp2_with fail
  refine (c8_list H HG.out HPA.out LP.out PP.out).mono ?_
  rintro e w9 ⟨⟨A10, c10, rfl, ha10⟩, hb⟩
  have HBq := Lib.hid (HB.out.trans (hb.mono HB.out.size))
  clear HB
  have HB := HBq
  clear HBq
  have HGq := Lib.hid (HG.out.next hb)
  clear HG
  have HG := HGq
  clear HGq
  have BXq := Lib.hid (BX.out.next hb)
  clear BX
  have BX := BXq
  clear BXq
  have HLq := Lib.hid (HL.out.next hb)
  clear HL
  have HL := HLq
  clear HLq
  have HPAq := Lib.hid (HPA.out.next hb)
  clear HPA
  have HPA := HPAq
  clear HPAq
  clear hb
  have F10 := Lib.hid ha10
  clear ha10
  go_wp2_with fail
  refine (c8_readList H HG.out F10.out LB.out RPP.out).mono ?_
  rintro e w10 ⟨⟨A11, c11, rfl, ha11⟩, hb⟩
  have HBq := Lib.hid (HB.out.trans (hb.mono HB.out.size))
  clear HB
  have HB := HBq
  clear HBq
  have HGq := Lib.hid (HG.out.next hb)
  clear HG
  have HG := HGq
  clear HGq
  have BXq := Lib.hid (BX.out.next hb)
  clear BX
  have BX := BXq
  clear BXq
  have HLq := Lib.hid (HL.out.next hb)
  clear HL
  have HL := HLq
  clear HLq
  have HPAq := Lib.hid (HPA.out.next hb)
  clear HPA
  have HPA := HPAq
  clear HPAq
  have F10q := Lib.hid (F10.out.next hb)
  clear F10
  have F10 := F10q
  clear F10q
  clear hb
  have F11 := Lib.hid ha11
  clear ha11
  go_wp2_with fail
  refine (r8_same F11.out HPA.out rfl).mono ?_
  rintro e w11 ⟨rfl, hb⟩
  have HBq := Lib.hid (HB.out.trans (hb.mono HB.out.size))
  clear HB
  have HB := HBq
  clear HBq
  have HGq := Lib.hid (HG.out.next hb)
  clear HG
  have HG := HGq
  clear HGq
  have BXq := Lib.hid (BX.out.next hb)
  clear BX
  have BX := BXq
  clear BXq
  have HLq := Lib.hid (HL.out.next hb)
  clear HL
  have HL := HLq
  clear HLq
  have HPAq := Lib.hid (HPA.out.next hb)
  clear HPA
  have HPA := HPAq
  clear HPAq
  have F10q := Lib.hid (F10.out.next hb)
  clear F10
  have F10 := F10q
  clear F10q
  have F11q := Lib.hid (F11.out.next hb)
  clear F11
  have F11 := F11q
  clear F11q
  clear hb
  go_wp2
  go_ret
  exact ⟨rfl, HB.out⟩

theorem codeBack_walk (H : CodeOk) (HSP : SpecOk) (s : Sp) (A : Option Addr) (n c : Nat) (l : List Int) (w : World) (hs : SAsk s) (hr0 : RI w w.heap.size A n l) (hj : ∀ x ∈ l, I64 x) (hnil : A = none → c = 0) (hnc : n ≤ c) (hn : n ≤ maxLen) (hG : Glob w) :
    Calls Try.prog 4 #[.agg #[.int .i64 s.nodes, .int .i64 s.cores, .int .i64 s.gpus, .string s.tag, .bool s.whole, .int .i64 s.long, .int .i64 s.prio], .slice A n c] w fun e w' => e = .returned (.bool true) ∧ Below w.heap.size w w' := by
  rcases Nat.lt_or_ge 300 n with hbig | hle
  · cases hr : rightS s with
    | false => exact codeBack_00 H HSP s A n c w hs hn hG hr hbig
    | true => exact codeBack_10 H HSP s A n c w hs hn hG hr hbig
  · cases hr : rightS s with
    | false => cases hb1 : rightB l with
      | false => exact codeBack_01 H HSP s A n c l w hs hr0 hj hnil hnc hn hG hr hle hb1
      | true => exact codeBack_02 H HSP s A n c l w hs hr0 hj hnil hnc hn hG hr hle hb1
    | true => cases hb1 : rightB l with
      | false => exact codeBack_11 H HSP s A n c l w hs hr0 hj hnil hnc hn hG hr hle hb1
      | true => exact codeBack_12 H HSP s A n c l w hs hr0 hj hnil hnc hn hG hr hle hb1

end Go.Proofs.Ytlpogkcfjbabaaa
