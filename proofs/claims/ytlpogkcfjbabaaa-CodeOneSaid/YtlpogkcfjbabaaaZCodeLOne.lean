/- The statement CodeOne, as a walk over the contracts: of any bytes the call returns true. -/
import Derived.Test.YtlpogkcfjbabaaaMg18
import Derived.Test.YtlpogkcfjbabaaaMg30
namespace Go.Proofs.Ytlpogkcfjbabaaa
open Go.RowKit

theorem sask_right {s : Sp} (h : rightS s = true) : SAsk s := by
  obtain ⟨q0, q1, q2, q3, _, q5, q6⟩ := rightS_is h
  have qt := tagB_size q0
  refine ⟨?_, ?_, ?_, ?_, ?_, ?_⟩ <;> first | (unfold I64; omega) | (unfold maxLen; omega)
theorem BAsk.front {w : World} {B n c k : Nat} {A : Option Addr} {bs : Bs} (h : BAsk w B A n c bs) (hk : k ≤ n) : BAsk w B A k c (bs.take k) := ⟨h.reads.front hk, h.nil, Nat.le_trans hk h.cap, Nat.le_trans hk h.few⟩
theorem bne_of {p q : Bs} (h : p ≠ q) : (p == q) = false := beq_eq_false_iff_ne.2 h
/-- what is read as a spec was one -/
theorem read_spec_right {b : Bs} {s : Sp} (h : spReadSQ b = (s, 0)) : rightS s = true ∧ b.length ≤ 100 := by
  have h1 := (spec_oneQ h).2.2.1
  unfold ptSpec at h1
  split at h1
  · rename_i hr
    injection h1 with h2 _
    exact ⟨hr, by rw [← h2]; exact specB_len hr⟩
  · injection h1 with _ h3; cases h3
theorem read_set_right {b : Bs} {l : List Int} (h : rdSetQ b = (l, 0)) : rightB l = true := by
  have h1 := (set_oneQ h).2.2.1
  unfold ptSet at h1
  split at h1
  · assumption
  · injection h1 with _ h3; cases h3
theorem read_list_sum {b : Bs} {ps : List Bs} (h : rdListQ b = (ps, 0)) : ps.flatten.length ≤ b.length := by
  have h1 := (list_oneQ h).2
  unfold ptList at h1
  split at h1
  · injection h1 with _ h3; cases h3
  · split at h1
    · injection h1 with h2 _
      rw [← h2]
      unfold listB
      simp only [List.length_cons, List.length_append]
      omega
    · injection h1 with _ h3; cases h3
theorem spec_none {b : Bs} {s : Sp} {e : Int} (h : spReadSQ b = (s, e)) (he : e ≠ 0) : s = sp0 := by
  have := whole_none (d := sp0) (p := specQ) (b := b) (by show (spReadSQ b).2 ≠ 0; rw [h]; exact he)
  have h2 : (spReadSQ b).1 = sp0 := this
  rw [h] at h2
  exact h2
theorem set_none {b : Bs} {s : List Int} {e : Int} (h : rdSetQ b = (s, e)) (he : e ≠ 0) : s = [] := by
  have := whole_none (d := []) (p := setQ) (b := b) (by show (rdSetQ b).2 ≠ 0; rw [h]; exact he)
  have h2 : (rdSetQ b).1 = [] := this
  rw [h] at h2
  exact h2
theorem list_none {b : Bs} {s : List Bs} {e : Int} (h : rdListQ b = (s, e)) (he : e ≠ 0) : s = [] := by
  have := whole_none (d := []) (p := listQ) (b := b) (by show (rdListQ b).2 ≠ 0; rw [h]; exact he)
  have h2 : (rdListQ b).1 = [] := this
  rw [h] at h2
  exact h2

set_option maxRecDepth 100000 in
set_option maxHeartbeats 8000000 in
theorem codeOne_s (H : CodeOk) (A : Option Addr) (n c : Nat) (bs : Bs) (m m1 : Nat) (w : World) (hb0 : BAsk w w.heap.size A n c bs) (hG : Glob w) (hm : (n ≤ 3000 ∧ n = m) ∨ (3000 < n ∧ m = 3000)) (hm1 : m1 = m - 1) (s : Sp) (h1 : spReadSQ (bs.take m) = (s, 0)) :
    Calls Try.prog 5 #[.slice A n c] w fun e w' => e = .returned (.bool true) ∧ Below w.heap.size w w' := by
  have hmn : m ≤ n := by omega
  have hm3 : m ≤ 20000 := by omega
  have hnc := hb0.cap
  have hn := hb0.few
  unfold maxLen at hn
  have hl := (hb0.front hmn).reads.len
  have HMN := Lib.hid hmn
  have HLM := Lib.hid hl
  have HM3 := Lib.hid hm3
  have FB := Lib.hid hb0
  have HG := Lib.hid hG
  have HB := Lib.hid (Below.refl w.heap.size w)
  obtain ⟨g1, g2, g3, g4⟩ := spec_oneQ h1
  obtain ⟨g5, g6⟩ := read_spec_right h1
  have hm0 : 0 < m := by
    rcases Nat.eq_zero_or_pos m with h | h
    · rw [h, List.take_zero] at g1; exact absurd rfl g1
    · exact h
  obtain ⟨l, e2, h2⟩ : ∃ l e, rdSetQ (bs.take m) = (l, e) := ⟨_, _, rfl⟩
  obtain ⟨ps, e3, h3⟩ : ∃ l e, rdListQ (bs.take m) = (l, e) := ⟨_, _, rfl⟩
  have n2 : e2 ≠ 0 := fun e => by subst e; have := (set_oneQ h2).2.1; rw [g2] at this; cases this
  have n3 : e3 ≠ 0 := fun e => by subst e; have := (list_oneQ h3).1; rw [g2] at this; cases this
  obtain rfl := set_none h2 n2
  obtain rfl := list_none h3 n3
  have hd : (bs.take m).dropLast = (bs.take m).take m1 := by rw [List.dropLast_eq_take, hl, hm1]
  have h6 := g4 (by rw [hl]; omega)
  rw [hd] at h6
  have HM1 : Hid (m1 ≤ m) := Lib.hid (by omega)
  have hk := sask_right g5
  obtain ⟨x0, x1, x2, x3, x4, x5, x6⟩ := s
  have HC1 : Hid (∀ wx, BAsk wx wx.heap.size A m c (bs.take m) → Glob wx → Calls Try.prog 16 #[.slice A m c] wx fun e w' => e = .returned (.tuple #[.agg #[.int .i64 x0, .int .i64 x1, .int .i64 x2, .string x3, .bool x4, .int .i64 x5, .int .i64 x6], .int .i64 0]) ∧ Below wx.heap.size wx w') := Lib.hid (fun wx ha hg => c8_readSpec (s := ⟨x0, x1, x2, x3, x4, x5, x6⟩) H hg ha hm3 h1)
  have HC5 : Hid (∀ wx, Glob wx → Calls Try.prog 9 #[.agg #[.int .i64 x0, .int .i64 x1, .int .i64 x2, .string x3, .bool x4, .int .i64 x5, .int .i64 x6]] wx (NP (bs.take m) 0 wx)) := Lib.hid (fun wx hg => c8_spec (s := ⟨x0, x1, x2, x3, x4, x5, x6⟩) H hg hk g3)
  have HC6 : Hid (∀ wx, BAsk wx wx.heap.size A m1 c ((bs.take m).take m1) → Glob wx → Calls Try.prog 16 #[.slice A m1 c] wx fun e w' => e = .returned (.tuple #[.agg #[.int .i64 0, .int .i64 0, .int .i64 0, .string ⟨#[]⟩, .bool false, .int .i64 0, .int .i64 0], .int .i64 2]) ∧ Below wx.heap.size wx w') := Lib.hid (fun wx ha hg => c8_readSpec (s := sp0) H hg ha (by omega) h6)
  have R2 := Lib.hid h2
  have R3 := Lib.hid h3
  have z2 : (e2 == 0) = false := by simpa using n2
  have z3 : (e3 == 0) = false := by simpa using n3
  clear g1 g2 g3 g4 g5 g6 n2 n3 hd h6 hk h1 h2 h3 hb0 hG
  rcases hm with ⟨hle, rfl⟩ | ⟨hgt, rfl⟩
  · subst hm1
    go_enter Try.func5, Try.ntmps5
    go_wp2_with fail
    refine (awake8_any H _ HG.out).mono ?_
    rintro e w1 ⟨rfl, hb⟩
    have HBq := Lib.hid (HB.out.trans (hb.mono HB.out.size))
    clear HB
    have HB := HBq
    clear HBq
    have HGq := Lib.hid (HG.out.next hb)
    clear HG
    have HG := HGq
    clear HGq
    have FBq := Lib.hid (FB.out.next hb)
    clear FB
    have FB := FBq
    clear FBq
    clear hb
    have FC := Lib.hid (FB.out.front HMN.out)
    clear FB
    go_wp2_with fail
    refine (HC1.out _ FC.out HG.out).mono ?_
    rintro e w2 ⟨rfl, hb⟩
    have HBq := Lib.hid (HB.out.trans (hb.mono HB.out.size))
    clear HB
    have HB := HBq
    clear HBq
    have HGq := Lib.hid (HG.out.next hb)
    clear HG
    have HG := HGq
    clear HGq
    have FCq := Lib.hid (FC.out.next hb)
    clear FC
    have FC := FCq
    clear FCq
    clear hb
    have BX : Hid (BoxS (w2.alloc (.cells #[.int .i64 x0, .int .i64 x1, .int .i64 x2, .string x3, .bool x4, .int .i64 x5, .int .i64 x6] 23)) w2.heap.size (⟨x0, x1, x2, x3, x4, x5, x6⟩ : Sp)) := Lib.hid (box_new w2 (⟨x0, x1, x2, x3, x4, x5, x6⟩ : Sp))
    have hb := Below.alloc (Below.refl w2.heap.size w2) (Nat.le_refl _) (.cells #[.int .i64 x0, .int .i64 x1, .int .i64 x2, .string x3, .bool x4, .int .i64 x5, .int .i64 x6] 23)
    have HBq := Lib.hid (HB.out.trans (hb.mono HB.out.size))
    clear HB
    have HB := HBq
    clear HBq
    have HGq := Lib.hid (HG.out.next hb)
    clear HG
    have HG := HGq
    clear HGq
    have FCq := Lib.hid (FC.out.next hb)
    clear FC
    have FC := FCq
    clear FCq
    clear hb
    go_wp2_with fail
    refine (c8_readSet H HG.out FC.out HM3.out R2.out).mono ?_
    rintro e w3 ⟨⟨A3, c3, rfl, hr3, hz3, hc3⟩, hb⟩
    have HBq := Lib.hid (HB.out.trans (hb.mono HB.out.size))
    clear HB
    have HB := HBq
    clear HBq
    have HGq := Lib.hid (HG.out.next hb)
    clear HG
    have HG := HGq
    clear HGq
    have FCq := Lib.hid (FC.out.next hb)
    clear FC
    have FC := FCq
    clear FCq
    have BXq := Lib.hid (BX.out.next hb)
    clear BX
    have BX := BXq
    clear BXq
    clear hb
    clear hr3 hz3 hc3
    go_wp2_with fail
    refine (c8_readList H HG.out FC.out HM3.out R3.out).mono ?_
    rintro e w4 ⟨⟨A4, c4, rfl, hp4⟩, hb⟩
    have HBq := Lib.hid (HB.out.trans (hb.mono HB.out.size))
    clear HB
    have HB := HBq
    clear HBq
    have HGq := Lib.hid (HG.out.next hb)
    clear HG
    have HG := HGq
    clear HGq
    have FCq := Lib.hid (FC.out.next hb)
    clear FC
    have FC := FCq
    clear FCq
    have BXq := Lib.hid (BX.out.next hb)
    clear BX
    have BX := BXq
    clear BXq
    clear hb
    clear hp4
    have q0 := BX.out.c0
    have q1 := BX.out.c1
    have q2 := BX.out.c2
    have q3 := BX.out.c3
    have q4 := BX.out.c4
    have q5 := BX.out.c5
    have q6 := BX.out.c6
    dsimp only at q0 q1 q2 q3 q4 q5 q6
    go_wp2_with fail
    refine (HC5.out _ HG.out).mono ?_
    rintro e w5 ⟨⟨A5, c5, rfl, ha5, _⟩, hb⟩
    rw [HLM.out] at ha5 ⊢
    have HBq := Lib.hid (HB.out.trans (hb.mono HB.out.size))
    clear HB
    have HB := HBq
    clear HBq
    have HGq := Lib.hid (HG.out.next hb)
    clear HG
    have HG := HGq
    clear HGq
    have FCq := Lib.hid (FC.out.next hb)
    clear FC
    have FC := FCq
    clear FCq
    have BXq := Lib.hid (BX.out.next hb)
    clear BX
    have BX := BXq
    clear BXq
    clear hb
    have F5 := Lib.hid ha5
    clear ha5
    clear q0 q1 q2 q3 q4 q5 q6
    have FD := Lib.hid (FC.out.front HM1.out)
    have s0 := FC.out.str c
    have s5 := F5.out.str c5
    go_wp2_with fail
    refine (HC6.out _ FD.out HG.out).mono ?_
    rintro e w6 ⟨rfl, hb⟩
    clear s0 s5
    have HBq := Lib.hid (HB.out.trans (hb.mono HB.out.size))
    clear HB
    have HB := HBq
    clear HBq
    have HGq := Lib.hid (HG.out.next hb)
    clear HG
    have HG := HGq
    clear HGq
    have FCq := Lib.hid (FC.out.next hb)
    clear FC
    have FC := FCq
    clear FCq
    have BXq := Lib.hid (BX.out.next hb)
    clear BX
    have BX := BXq
    clear BXq
    have F5q := Lib.hid (F5.out.next hb)
    clear F5
    have F5 := F5q
    clear F5q
    have FDq := Lib.hid (FD.out.next hb)
    clear FD
    have FD := FDq
    clear FDq
    clear hb
    have hb := Below.alloc (Below.refl w6.heap.size w6) (Nat.le_refl _) (.cells #[.int .i64 0, .int .i64 0, .int .i64 0, .string ⟨#[]⟩, .bool false, .int .i64 0, .int .i64 0] 23)
    have HBq := Lib.hid (HB.out.trans (hb.mono HB.out.size))
    clear HB
    have HB := HBq
    clear HBq
    have HGq := Lib.hid (HG.out.next hb)
    clear HG
    have HG := HGq
    clear HGq
    have FCq := Lib.hid (FC.out.next hb)
    clear FC
    have FC := FCq
    clear FCq
    have BXq := Lib.hid (BX.out.next hb)
    clear BX
    have BX := BXq
    clear BXq
    have F5q := Lib.hid (F5.out.next hb)
    clear F5
    have F5 := F5q
    clear F5q
    have FDq := Lib.hid (FD.out.next hb)
    clear FD
    have FD := FDq
    clear FDq
    clear hb
    have q0 := BX.out.c0
    have q1 := BX.out.c1
    have q2 := BX.out.c2
    have q3 := BX.out.c3
    have q4 := BX.out.c4
    have q5 := BX.out.c5
    have q6 := BX.out.c6
    dsimp only at q0 q1 q2 q3 q4 q5 q6
    go_wp2
    go_ret
    exact ⟨rfl, HB.out⟩
  · obtain rfl : m1 = 2999 := by omega
    go_enter Try.func5, Try.ntmps5
    go_wp2_with fail
    refine (awake8_any H _ HG.out).mono ?_
    rintro e w1 ⟨rfl, hb⟩
    have HBq := Lib.hid (HB.out.trans (hb.mono HB.out.size))
    clear HB
    have HB := HBq
    clear HBq
    have HGq := Lib.hid (HG.out.next hb)
    clear HG
    have HG := HGq
    clear HGq
    have FBq := Lib.hid (FB.out.next hb)
    clear FB
    have FB := FBq
    clear FBq
    clear hb
    have FC := Lib.hid (FB.out.front HMN.out)
    clear FB
    go_wp2_with fail
    refine (HC1.out _ FC.out HG.out).mono ?_
    rintro e w2 ⟨rfl, hb⟩
    have HBq := Lib.hid (HB.out.trans (hb.mono HB.out.size))
    clear HB
    have HB := HBq
    clear HBq
    have HGq := Lib.hid (HG.out.next hb)
    clear HG
    have HG := HGq
    clear HGq
    have FCq := Lib.hid (FC.out.next hb)
    clear FC
    have FC := FCq
    clear FCq
    clear hb
    have BX : Hid (BoxS (w2.alloc (.cells #[.int .i64 x0, .int .i64 x1, .int .i64 x2, .string x3, .bool x4, .int .i64 x5, .int .i64 x6] 23)) w2.heap.size (⟨x0, x1, x2, x3, x4, x5, x6⟩ : Sp)) := Lib.hid (box_new w2 (⟨x0, x1, x2, x3, x4, x5, x6⟩ : Sp))
    have hb := Below.alloc (Below.refl w2.heap.size w2) (Nat.le_refl _) (.cells #[.int .i64 x0, .int .i64 x1, .int .i64 x2, .string x3, .bool x4, .int .i64 x5, .int .i64 x6] 23)
    have HBq := Lib.hid (HB.out.trans (hb.mono HB.out.size))
    clear HB
    have HB := HBq
    clear HBq
    have HGq := Lib.hid (HG.out.next hb)
    clear HG
    have HG := HGq
    clear HGq
    have FCq := Lib.hid (FC.out.next hb)
    clear FC
    have FC := FCq
    clear FCq
    clear hb
    go_wp2_with fail
    refine (c8_readSet H HG.out FC.out HM3.out R2.out).mono ?_
    rintro e w3 ⟨⟨A3, c3, rfl, hr3, hz3, hc3⟩, hb⟩
    have HBq := Lib.hid (HB.out.trans (hb.mono HB.out.size))
    clear HB
    have HB := HBq
    clear HBq
    have HGq := Lib.hid (HG.out.next hb)
    clear HG
    have HG := HGq
    clear HGq
    have FCq := Lib.hid (FC.out.next hb)
    clear FC
    have FC := FCq
    clear FCq
    have BXq := Lib.hid (BX.out.next hb)
    clear BX
    have BX := BXq
    clear BXq
    clear hb
    clear hr3 hz3 hc3
    go_wp2_with fail
    refine (c8_readList H HG.out FC.out HM3.out R3.out).mono ?_
    rintro e w4 ⟨⟨A4, c4, rfl, hp4⟩, hb⟩
    have HBq := Lib.hid (HB.out.trans (hb.mono HB.out.size))
    clear HB
    have HB := HBq
    clear HBq
    have HGq := Lib.hid (HG.out.next hb)
    clear HG
    have HG := HGq
    clear HGq
    have FCq := Lib.hid (FC.out.next hb)
    clear FC
    have FC := FCq
    clear FCq
    have BXq := Lib.hid (BX.out.next hb)
    clear BX
    have BX := BXq
    clear BXq
    clear hb
    clear hp4
    have q0 := BX.out.c0
    have q1 := BX.out.c1
    have q2 := BX.out.c2
    have q3 := BX.out.c3
    have q4 := BX.out.c4
    have q5 := BX.out.c5
    have q6 := BX.out.c6
    dsimp only at q0 q1 q2 q3 q4 q5 q6
    go_wp2_with fail
    refine (HC5.out _ HG.out).mono ?_
    rintro e w5 ⟨⟨A5, c5, rfl, ha5, _⟩, hb⟩
    rw [HLM.out] at ha5 ⊢
    have HBq := Lib.hid (HB.out.trans (hb.mono HB.out.size))
    clear HB
    have HB := HBq
    clear HBq
    have HGq := Lib.hid (HG.out.next hb)
    clear HG
    have HG := HGq
    clear HGq
    have FCq := Lib.hid (FC.out.next hb)
    clear FC
    have FC := FCq
    clear FCq
    have BXq := Lib.hid (BX.out.next hb)
    clear BX
    have BX := BXq
    clear BXq
    clear hb
    have F5 := Lib.hid ha5
    clear ha5
    clear q0 q1 q2 q3 q4 q5 q6
    have FD := Lib.hid (FC.out.front HM1.out)
    have s0 := FC.out.str c
    have s5 := F5.out.str c5
    go_wp2_with fail
    refine (HC6.out _ FD.out HG.out).mono ?_
    rintro e w6 ⟨rfl, hb⟩
    clear s0 s5
    have HBq := Lib.hid (HB.out.trans (hb.mono HB.out.size))
    clear HB
    have HB := HBq
    clear HBq
    have HGq := Lib.hid (HG.out.next hb)
    clear HG
    have HG := HGq
    clear HGq
    have FCq := Lib.hid (FC.out.next hb)
    clear FC
    have FC := FCq
    clear FCq
    have BXq := Lib.hid (BX.out.next hb)
    clear BX
    have BX := BXq
    clear BXq
    have F5q := Lib.hid (F5.out.next hb)
    clear F5
    have F5 := F5q
    clear F5q
    have FDq := Lib.hid (FD.out.next hb)
    clear FD
    have FD := FDq
    clear FDq
    clear hb
    have hb := Below.alloc (Below.refl w6.heap.size w6) (Nat.le_refl _) (.cells #[.int .i64 0, .int .i64 0, .int .i64 0, .string ⟨#[]⟩, .bool false, .int .i64 0, .int .i64 0] 23)
    have HBq := Lib.hid (HB.out.trans (hb.mono HB.out.size))
    clear HB
    have HB := HBq
    clear HBq
    have HGq := Lib.hid (HG.out.next hb)
    clear HG
    have HG := HGq
    clear HGq
    have FCq := Lib.hid (FC.out.next hb)
    clear FC
    have FC := FCq
    clear FCq
    have BXq := Lib.hid (BX.out.next hb)
    clear BX
    have BX := BXq
    clear BXq
    have F5q := Lib.hid (F5.out.next hb)
    clear F5
    have F5 := F5q
    clear F5q
    have FDq := Lib.hid (FD.out.next hb)
    clear FD
    have FD := FDq
    clear FDq
    clear hb
    have q0 := BX.out.c0
    have q1 := BX.out.c1
    have q2 := BX.out.c2
    have q3 := BX.out.c3
    have q4 := BX.out.c4
    have q5 := BX.out.c5
    have q6 := BX.out.c6
    dsimp only at q0 q1 q2 q3 q4 q5 q6
    go_wp2
    go_ret
    exact ⟨rfl, HB.out⟩

set_option maxRecDepth 100000 in
set_option maxHeartbeats 8000000 in
theorem codeOne_l (H : CodeOk) (A : Option Addr) (n c : Nat) (bs : Bs) (m m1 : Nat) (w : World) (hb0 : BAsk w w.heap.size A n c bs) (hG : Glob w) (hm : (n ≤ 3000 ∧ n = m) ∨ (3000 < n ∧ m = 3000)) (hm1 : m1 = m - 1) (l : List Int) (h2 : rdSetQ (bs.take m) = (l, 0)) :
    Calls Try.prog 5 #[.slice A n c] w fun e w' => e = .returned (.bool true) ∧ Below w.heap.size w w' := by
  have hmn : m ≤ n := by omega
  have hm3 : m ≤ 20000 := by omega
  have hnc := hb0.cap
  have hn := hb0.few
  unfold maxLen at hn
  have hl := (hb0.front hmn).reads.len
  have HMN := Lib.hid hmn
  have HLM := Lib.hid hl
  have HM3 := Lib.hid hm3
  have FB := Lib.hid hb0
  have HG := Lib.hid hG
  have HB := Lib.hid (Below.refl w.heap.size w)
  obtain ⟨g1, g2, g3, g4⟩ := set_oneQ h2
  have g5 := read_set_right h2
  have hm0 : 0 < m := by
    rcases Nat.eq_zero_or_pos m with h | h
    · rw [h, List.take_zero] at g1; exact absurd rfl g1
    · exact h
  obtain ⟨s, e1, h1⟩ : ∃ l e, spReadSQ (bs.take m) = (l, e) := ⟨_, _, rfl⟩
  obtain ⟨ps, e3, h3⟩ : ∃ l e, rdListQ (bs.take m) = (l, e) := ⟨_, _, rfl⟩
  have n1 : e1 ≠ 0 := fun e => by subst e; have := (spec_oneQ h1).2.1; rw [g2] at this; cases this
  have n3 : e3 ≠ 0 := fun e => by subst e; have := (list_oneQ h3).1; rw [g2] at this; cases this
  obtain rfl := spec_none h1 n1
  obtain rfl := list_none h3 n3
  have hd : (bs.take m).dropLast = (bs.take m).take m1 := by rw [List.dropLast_eq_take, hl, hm1]
  have h6 := g4 (by rw [hl]; omega)
  rw [hd] at h6
  have HM1 : Hid (m1 ≤ m) := Lib.hid (by omega)
  have HM13 : Hid (m1 ≤ 20000) := Lib.hid (by omega)
  have LL : Hid (l.length ≤ 300) := Lib.hid (Nat.le_trans (right_few g5) (by omega))
  have LI : Hid (∀ x ∈ l, I64 x) := Lib.hid (fun x hx => by have := right_mem g5 x hx; unfold I64; omega)
  have R2 := Lib.hid h2
  have R3 := Lib.hid h3
  have R6 := Lib.hid h6
  have P2 := Lib.hid g3
  have z1 : (e1 == 0) = false := by simpa using n1
  have z3 : (e3 == 0) = false := by simpa using n3
  clear g1 g2 g3 g4 g5 hd h6 n1 n3
  have HC1 : Hid (∀ wx, BAsk wx wx.heap.size A m c (bs.take m) → Glob wx → Calls Try.prog 16 #[.slice A m c] wx fun e w' => e = .returned (.tuple #[.agg #[.int .i64 0, .int .i64 0, .int .i64 0, .string ⟨#[]⟩, .bool false, .int .i64 0, .int .i64 0], .int .i64 e1]) ∧ Below wx.heap.size wx w') := Lib.hid (fun wx ha hg => c8_readSpec H hg ha hm3 h1)
  clear hb0 hG h1 h2 h3
  rcases hm with ⟨hle, rfl⟩ | ⟨hgt, rfl⟩
  · subst hm1
    go_enter Try.func5, Try.ntmps5
    go_wp2_with fail
    refine (awake8_any H _ HG.out).mono ?_
    rintro e w1 ⟨rfl, hb⟩
    have HBq := Lib.hid (HB.out.trans (hb.mono HB.out.size))
    clear HB
    have HB := HBq
    clear HBq
    have HGq := Lib.hid (HG.out.next hb)
    clear HG
    have HG := HGq
    clear HGq
    have FBq := Lib.hid (FB.out.next hb)
    clear FB
    have FB := FBq
    clear FBq
    clear hb
    have FC := Lib.hid (FB.out.front HMN.out)
    clear FB
    go_wp2_with fail
    refine (HC1.out _ FC.out HG.out).mono ?_
    rintro e w2 ⟨rfl, hb⟩
    have HBq := Lib.hid (HB.out.trans (hb.mono HB.out.size))
    clear HB
    have HB := HBq
    clear HBq
    have HGq := Lib.hid (HG.out.next hb)
    clear HG
    have HG := HGq
    clear HGq
    have FCq := Lib.hid (FC.out.next hb)
    clear FC
    have FC := FCq
    clear FCq
    clear hb
    have BX : Hid (BoxS (w2.alloc (.cells #[.int .i64 0, .int .i64 0, .int .i64 0, .string ⟨#[]⟩, .bool false, .int .i64 0, .int .i64 0] 23)) w2.heap.size sp0) := Lib.hid (box_new w2 sp0)
    have hb := Below.alloc (Below.refl w2.heap.size w2) (Nat.le_refl _) (.cells #[.int .i64 0, .int .i64 0, .int .i64 0, .string ⟨#[]⟩, .bool false, .int .i64 0, .int .i64 0] 23)
    have HBq := Lib.hid (HB.out.trans (hb.mono HB.out.size))
    clear HB
    have HB := HBq
    clear HBq
    have HGq := Lib.hid (HG.out.next hb)
    clear HG
    have HG := HGq
    clear HGq
    have FCq := Lib.hid (FC.out.next hb)
    clear FC
    have FC := FCq
    clear FCq
    clear hb
    go_wp2_with fail
    refine (c8_readSet H HG.out FC.out HM3.out R2.out).mono ?_
    rintro e w3 ⟨⟨A3, c3, rfl, hr3, hz3, hc3⟩, hb⟩
    have HBq := Lib.hid (HB.out.trans (hb.mono HB.out.size))
    clear HB
    have HB := HBq
    clear HBq
    have HGq := Lib.hid (HG.out.next hb)
    clear HG
    have HG := HGq
    clear HGq
    have FCq := Lib.hid (FC.out.next hb)
    clear FC
    have FC := FCq
    clear FCq
    have BXq := Lib.hid (BX.out.next hb)
    clear BX
    have BX := BXq
    clear BXq
    clear hb
    have F3 := Lib.hid (show LAsk w3 A3 _ c3 l from ⟨hr3, hz3, hc3, LL.out, LI.out⟩)
    clear hr3 hz3 hc3
    go_wp2_with fail
    refine (c8_readList H HG.out FC.out HM3.out R3.out).mono ?_
    rintro e w4 ⟨⟨A4, c4, rfl, hp4⟩, hb⟩
    have HBq := Lib.hid (HB.out.trans (hb.mono HB.out.size))
    clear HB
    have HB := HBq
    clear HBq
    have HGq := Lib.hid (HG.out.next hb)
    clear HG
    have HG := HGq
    clear HGq
    have FCq := Lib.hid (FC.out.next hb)
    clear FC
    have FC := FCq
    clear FCq
    have BXq := Lib.hid (BX.out.next hb)
    clear BX
    have BX := BXq
    clear BXq
    have F3q := Lib.hid (F3.out.next hb)
    clear F3
    have F3 := F3q
    clear F3q
    clear hb
    clear hp4
    go_wp2_with fail
    refine (c8_set H HG.out F3.out P2.out).mono ?_
    rintro e w5 ⟨⟨A5, c5, rfl, ha5, _⟩, hb⟩
    rw [HLM.out] at ha5 ⊢
    have HBq := Lib.hid (HB.out.trans (hb.mono HB.out.size))
    clear HB
    have HB := HBq
    clear HBq
    have HGq := Lib.hid (HG.out.next hb)
    clear HG
    have HG := HGq
    clear HGq
    have FCq := Lib.hid (FC.out.next hb)
    clear FC
    have FC := FCq
    clear FCq
    have BXq := Lib.hid (BX.out.next hb)
    clear BX
    have BX := BXq
    clear BXq
    have F3q := Lib.hid (F3.out.next hb)
    clear F3
    have F3 := F3q
    clear F3q
    clear hb
    have F5 := Lib.hid ha5
    clear ha5
    have FD := Lib.hid (FC.out.front HM1.out)
    have s0 := FC.out.str c
    have s5 := F5.out.str c5
    go_wp2_with fail
    refine (c8_readSet H HG.out FD.out HM13.out R6.out).mono ?_
    rintro e w6 ⟨⟨A6, c6, rfl, _, _, _⟩, hb⟩
    clear s0 s5
    have HBq := Lib.hid (HB.out.trans (hb.mono HB.out.size))
    clear HB
    have HB := HBq
    clear HBq
    have HGq := Lib.hid (HG.out.next hb)
    clear HG
    have HG := HGq
    clear HGq
    have FCq := Lib.hid (FC.out.next hb)
    clear FC
    have FC := FCq
    clear FCq
    have BXq := Lib.hid (BX.out.next hb)
    clear BX
    have BX := BXq
    clear BXq
    have F3q := Lib.hid (F3.out.next hb)
    clear F3
    have F3 := F3q
    clear F3q
    have F5q := Lib.hid (F5.out.next hb)
    clear F5
    have F5 := F5q
    clear F5q
    have FDq := Lib.hid (FD.out.next hb)
    clear FD
    have FD := FDq
    clear FDq
    clear hb
    have q0 := BX.out.c0
    have q1 := BX.out.c1
    have q2 := BX.out.c2
    have q3 := BX.out.c3
    have q4 := BX.out.c4
    have q5 := BX.out.c5
    have q6 := BX.out.c6
    dsimp only [sp0] at q0 q1 q2 q3 q4 q5 q6
    go_wp2
    go_ret
    exact ⟨rfl, HB.out⟩
  · obtain rfl : m1 = 2999 := by omega
    go_enter Try.func5, Try.ntmps5
    go_wp2_with fail
    refine (awake8_any H _ HG.out).mono ?_
    rintro e w1 ⟨rfl, hb⟩
    have HBq := Lib.hid (HB.out.trans (hb.mono HB.out.size))
    clear HB
    have HB := HBq
    clear HBq
    have HGq := Lib.hid (HG.out.next hb)
    clear HG
    have HG := HGq
    clear HGq
    have FBq := Lib.hid (FB.out.next hb)
    clear FB
    have FB := FBq
    clear FBq
    clear hb
    have FC := Lib.hid (FB.out.front HMN.out)
    clear FB
    go_wp2_with fail
    refine (HC1.out _ FC.out HG.out).mono ?_
    rintro e w2 ⟨rfl, hb⟩
    have HBq := Lib.hid (HB.out.trans (hb.mono HB.out.size))
    clear HB
    have HB := HBq
    clear HBq
    have HGq := Lib.hid (HG.out.next hb)
    clear HG
    have HG := HGq
    clear HGq
    have FCq := Lib.hid (FC.out.next hb)
    clear FC
    have FC := FCq
    clear FCq
    clear hb
    have BX : Hid (BoxS (w2.alloc (.cells #[.int .i64 0, .int .i64 0, .int .i64 0, .string ⟨#[]⟩, .bool false, .int .i64 0, .int .i64 0] 23)) w2.heap.size sp0) := Lib.hid (box_new w2 sp0)
    have hb := Below.alloc (Below.refl w2.heap.size w2) (Nat.le_refl _) (.cells #[.int .i64 0, .int .i64 0, .int .i64 0, .string ⟨#[]⟩, .bool false, .int .i64 0, .int .i64 0] 23)
    have HBq := Lib.hid (HB.out.trans (hb.mono HB.out.size))
    clear HB
    have HB := HBq
    clear HBq
    have HGq := Lib.hid (HG.out.next hb)
    clear HG
    have HG := HGq
    clear HGq
    have FCq := Lib.hid (FC.out.next hb)
    clear FC
    have FC := FCq
    clear FCq
    clear hb
    go_wp2_with fail
    refine (c8_readSet H HG.out FC.out HM3.out R2.out).mono ?_
    rintro e w3 ⟨⟨A3, c3, rfl, hr3, hz3, hc3⟩, hb⟩
    have HBq := Lib.hid (HB.out.trans (hb.mono HB.out.size))
    clear HB
    have HB := HBq
    clear HBq
    have HGq := Lib.hid (HG.out.next hb)
    clear HG
    have HG := HGq
    clear HGq
    have FCq := Lib.hid (FC.out.next hb)
    clear FC
    have FC := FCq
    clear FCq
    have BXq := Lib.hid (BX.out.next hb)
    clear BX
    have BX := BXq
    clear BXq
    clear hb
    have F3 := Lib.hid (show LAsk w3 A3 _ c3 l from ⟨hr3, hz3, hc3, LL.out, LI.out⟩)
    clear hr3 hz3 hc3
    go_wp2_with fail
    refine (c8_readList H HG.out FC.out HM3.out R3.out).mono ?_
    rintro e w4 ⟨⟨A4, c4, rfl, hp4⟩, hb⟩
    have HBq := Lib.hid (HB.out.trans (hb.mono HB.out.size))
    clear HB
    have HB := HBq
    clear HBq
    have HGq := Lib.hid (HG.out.next hb)
    clear HG
    have HG := HGq
    clear HGq
    have FCq := Lib.hid (FC.out.next hb)
    clear FC
    have FC := FCq
    clear FCq
    have BXq := Lib.hid (BX.out.next hb)
    clear BX
    have BX := BXq
    clear BXq
    have F3q := Lib.hid (F3.out.next hb)
    clear F3
    have F3 := F3q
    clear F3q
    clear hb
    clear hp4
    go_wp2_with fail
    refine (c8_set H HG.out F3.out P2.out).mono ?_
    rintro e w5 ⟨⟨A5, c5, rfl, ha5, _⟩, hb⟩
    rw [HLM.out] at ha5 ⊢
    have HBq := Lib.hid (HB.out.trans (hb.mono HB.out.size))
    clear HB
    have HB := HBq
    clear HBq
    have HGq := Lib.hid (HG.out.next hb)
    clear HG
    have HG := HGq
    clear HGq
    have FCq := Lib.hid (FC.out.next hb)
    clear FC
    have FC := FCq
    clear FCq
    have BXq := Lib.hid (BX.out.next hb)
    clear BX
    have BX := BXq
    clear BXq
    have F3q := Lib.hid (F3.out.next hb)
    clear F3
    have F3 := F3q
    clear F3q
    clear hb
    have F5 := Lib.hid ha5
    clear ha5
    have FD := Lib.hid (FC.out.front HM1.out)
    have s0 := FC.out.str c
    have s5 := F5.out.str c5
    go_wp2_with fail
    refine (c8_readSet H HG.out FD.out HM13.out R6.out).mono ?_
    rintro e w6 ⟨⟨A6, c6, rfl, _, _, _⟩, hb⟩
    clear s0 s5
    have HBq := Lib.hid (HB.out.trans (hb.mono HB.out.size))
    clear HB
    have HB := HBq
    clear HBq
    have HGq := Lib.hid (HG.out.next hb)
    clear HG
    have HG := HGq
    clear HGq
    have FCq := Lib.hid (FC.out.next hb)
    clear FC
    have FC := FCq
    clear FCq
    have BXq := Lib.hid (BX.out.next hb)
    clear BX
    have BX := BXq
    clear BXq
    have F3q := Lib.hid (F3.out.next hb)
    clear F3
    have F3 := F3q
    clear F3q
    have F5q := Lib.hid (F5.out.next hb)
    clear F5
    have F5 := F5q
    clear F5q
    have FDq := Lib.hid (FD.out.next hb)
    clear FD
    have FD := FDq
    clear FDq
    clear hb
    have q0 := BX.out.c0
    have q1 := BX.out.c1
    have q2 := BX.out.c2
    have q3 := BX.out.c3
    have q4 := BX.out.c4
    have q5 := BX.out.c5
    have q6 := BX.out.c6
    dsimp only [sp0] at q0 q1 q2 q3 q4 q5 q6
    go_wp2
    go_ret
    exact ⟨rfl, HB.out⟩

set_option maxRecDepth 100000 in
set_option maxHeartbeats 8000000 in
theorem codeOne_p (H : CodeOk) (A : Option Addr) (n c : Nat) (bs : Bs) (m m1 : Nat) (w : World) (hb0 : BAsk w w.heap.size A n c bs) (hG : Glob w) (hm : (n ≤ 3000 ∧ n = m) ∨ (3000 < n ∧ m = 3000)) (hm1 : m1 = m - 1) (ps : List Bs) (h3 : rdListQ (bs.take m) = (ps, 0)) :
    Calls Try.prog 5 #[.slice A n c] w fun e w' => e = .returned (.bool true) ∧ Below w.heap.size w w' := by
  have hmn : m ≤ n := by omega
  have hm3 : m ≤ 20000 := by omega
  have hnc := hb0.cap
  have hn := hb0.few
  unfold maxLen at hn
  have hl := (hb0.front hmn).reads.len
  have HMN := Lib.hid hmn
  have HLM := Lib.hid hl
  have HM3 := Lib.hid hm3
  have FB := Lib.hid hb0
  have HG := Lib.hid hG
  have HB := Lib.hid (Below.refl w.heap.size w)
  obtain ⟨g2, g3⟩ := list_oneQ h3
  have g5 := read_list_sum h3
  obtain ⟨s, e1, h1⟩ : ∃ l e, spReadSQ (bs.take m) = (l, e) := ⟨_, _, rfl⟩
  obtain ⟨l, e2, h2⟩ : ∃ l e, rdSetQ (bs.take m) = (l, e) := ⟨_, _, rfl⟩
  have n1 : e1 ≠ 0 := fun e => by subst e; have := (spec_oneQ h1).2.1; rw [g2] at this; cases this
  have n2 : e2 ≠ 0 := fun e => by subst e; have := (set_oneQ h2).2.1; rw [g2] at this; cases this
  obtain rfl := spec_none h1 n1
  obtain rfl := set_none h2 n2
  have LS : Hid (ps.flatten.length ≤ 100000) := Lib.hid (by omega)
  have R2 := Lib.hid h2
  have R3 := Lib.hid h3
  have P3 := Lib.hid g3
  have z1 : (e1 == 0) = false := by simpa using n1
  have z2 : (e2 == 0) = false := by simpa using n2
  clear g2 g3 g5 n1 n2
  have HC1 : Hid (∀ wx, BAsk wx wx.heap.size A m c (bs.take m) → Glob wx → Calls Try.prog 16 #[.slice A m c] wx fun e w' => e = .returned (.tuple #[.agg #[.int .i64 0, .int .i64 0, .int .i64 0, .string ⟨#[]⟩, .bool false, .int .i64 0, .int .i64 0], .int .i64 e1]) ∧ Below wx.heap.size wx w') := Lib.hid (fun wx ha hg => c8_readSpec H hg ha hm3 h1)
  clear hb0 hG h1 h2 h3
  rcases hm with ⟨hle, rfl⟩ | ⟨hgt, rfl⟩
  · subst hm1
    go_enter Try.func5, Try.ntmps5
    go_wp2_with fail
    refine (awake8_any H _ HG.out).mono ?_
    rintro e w1 ⟨rfl, hb⟩
    have HBq := Lib.hid (HB.out.trans (hb.mono HB.out.size))
    clear HB
    have HB := HBq
    clear HBq
    have HGq := Lib.hid (HG.out.next hb)
    clear HG
    have HG := HGq
    clear HGq
    have FBq := Lib.hid (FB.out.next hb)
    clear FB
    have FB := FBq
    clear FBq
    clear hb
    have FC := Lib.hid (FB.out.front HMN.out)
    clear FB
    go_wp2_with fail
    refine (HC1.out _ FC.out HG.out).mono ?_
    rintro e w2 ⟨rfl, hb⟩
    have HBq := Lib.hid (HB.out.trans (hb.mono HB.out.size))
    clear HB
    have HB := HBq
    clear HBq
    have HGq := Lib.hid (HG.out.next hb)
    clear HG
    have HG := HGq
    clear HGq
    have FCq := Lib.hid (FC.out.next hb)
    clear FC
    have FC := FCq
    clear FCq
    clear hb
    have BX : Hid (BoxS (w2.alloc (.cells #[.int .i64 0, .int .i64 0, .int .i64 0, .string ⟨#[]⟩, .bool false, .int .i64 0, .int .i64 0] 23)) w2.heap.size sp0) := Lib.hid (box_new w2 sp0)
    have hb := Below.alloc (Below.refl w2.heap.size w2) (Nat.le_refl _) (.cells #[.int .i64 0, .int .i64 0, .int .i64 0, .string ⟨#[]⟩, .bool false, .int .i64 0, .int .i64 0] 23)
    have HBq := Lib.hid (HB.out.trans (hb.mono HB.out.size))
    clear HB
    have HB := HBq
    clear HBq
    have HGq := Lib.hid (HG.out.next hb)
    clear HG
    have HG := HGq
    clear HGq
    have FCq := Lib.hid (FC.out.next hb)
    clear FC
    have FC := FCq
    clear FCq
    clear hb
    go_wp2_with fail
    refine (c8_readSet H HG.out FC.out HM3.out R2.out).mono ?_
    rintro e w3 ⟨⟨A3, c3, rfl, hr3, hz3, hc3⟩, hb⟩
    have HBq := Lib.hid (HB.out.trans (hb.mono HB.out.size))
    clear HB
    have HB := HBq
    clear HBq
    have HGq := Lib.hid (HG.out.next hb)
    clear HG
    have HG := HGq
    clear HGq
    have FCq := Lib.hid (FC.out.next hb)
    clear FC
    have FC := FCq
    clear FCq
    have BXq := Lib.hid (BX.out.next hb)
    clear BX
    have BX := BXq
    clear BXq
    clear hb
    clear hr3 hz3 hc3
    go_wp2_with fail
    refine (c8_readList H HG.out FC.out HM3.out R3.out).mono ?_
    rintro e w4 ⟨⟨A4, c4, rfl, hp4⟩, hb⟩
    have HBq := Lib.hid (HB.out.trans (hb.mono HB.out.size))
    clear HB
    have HB := HBq
    clear HBq
    have HGq := Lib.hid (HG.out.next hb)
    clear HG
    have HG := HGq
    clear HGq
    have FCq := Lib.hid (FC.out.next hb)
    clear FC
    have FC := FCq
    clear FCq
    have BXq := Lib.hid (BX.out.next hb)
    clear BX
    have BX := BXq
    clear BXq
    clear hb
    have F4 := Lib.hid hp4
    clear hp4
    go_wp2_with fail
    refine (c8_list H HG.out F4.out LS.out P3.out).mono ?_
    rintro e w5 ⟨⟨A5, c5, rfl, ha5⟩, hb⟩
    rw [HLM.out] at ha5 ⊢
    have HBq := Lib.hid (HB.out.trans (hb.mono HB.out.size))
    clear HB
    have HB := HBq
    clear HBq
    have HGq := Lib.hid (HG.out.next hb)
    clear HG
    have HG := HGq
    clear HGq
    have FCq := Lib.hid (FC.out.next hb)
    clear FC
    have FC := FCq
    clear FCq
    have BXq := Lib.hid (BX.out.next hb)
    clear BX
    have BX := BXq
    clear BXq
    have F4q := Lib.hid (F4.out.next hb)
    clear F4
    have F4 := F4q
    clear F4q
    clear hb
    have F5 := Lib.hid ha5
    clear ha5
    have s0 := FC.out.str c
    have s5 := F5.out.str c5
    have q0 := BX.out.c0
    have q1 := BX.out.c1
    have q2 := BX.out.c2
    have q3 := BX.out.c3
    have q4 := BX.out.c4
    have q5 := BX.out.c5
    have q6 := BX.out.c6
    dsimp only [sp0] at q0 q1 q2 q3 q4 q5 q6
    go_wp2
    go_ret
    exact ⟨rfl, HB.out⟩
  · obtain rfl : m1 = 2999 := by omega
    go_enter Try.func5, Try.ntmps5
    go_wp2_with fail
    refine (awake8_any H _ HG.out).mono ?_
    rintro e w1 ⟨rfl, hb⟩
    have HBq := Lib.hid (HB.out.trans (hb.mono HB.out.size))
    clear HB
    have HB := HBq
    clear HBq
    have HGq := Lib.hid (HG.out.next hb)
    clear HG
    have HG := HGq
    clear HGq
    have FBq := Lib.hid (FB.out.next hb)
    clear FB
    have FB := FBq
    clear FBq
    clear hb
    have FC := Lib.hid (FB.out.front HMN.out)
    clear FB
    go_wp2_with fail
    refine (HC1.out _ FC.out HG.out).mono ?_
    rintro e w2 ⟨rfl, hb⟩
    have HBq := Lib.hid (HB.out.trans (hb.mono HB.out.size))
    clear HB
    have HB := HBq
    clear HBq
    have HGq := Lib.hid (HG.out.next hb)
    clear HG
    have HG := HGq
    clear HGq
    have FCq := Lib.hid (FC.out.next hb)
    clear FC
    have FC := FCq
    clear FCq
    clear hb
    have BX : Hid (BoxS (w2.alloc (.cells #[.int .i64 0, .int .i64 0, .int .i64 0, .string ⟨#[]⟩, .bool false, .int .i64 0, .int .i64 0] 23)) w2.heap.size sp0) := Lib.hid (box_new w2 sp0)
    have hb := Below.alloc (Below.refl w2.heap.size w2) (Nat.le_refl _) (.cells #[.int .i64 0, .int .i64 0, .int .i64 0, .string ⟨#[]⟩, .bool false, .int .i64 0, .int .i64 0] 23)
    have HBq := Lib.hid (HB.out.trans (hb.mono HB.out.size))
    clear HB
    have HB := HBq
    clear HBq
    have HGq := Lib.hid (HG.out.next hb)
    clear HG
    have HG := HGq
    clear HGq
    have FCq := Lib.hid (FC.out.next hb)
    clear FC
    have FC := FCq
    clear FCq
    clear hb
    go_wp2_with fail
    refine (c8_readSet H HG.out FC.out HM3.out R2.out).mono ?_
    rintro e w3 ⟨⟨A3, c3, rfl, hr3, hz3, hc3⟩, hb⟩
    have HBq := Lib.hid (HB.out.trans (hb.mono HB.out.size))
    clear HB
    have HB := HBq
    clear HBq
    have HGq := Lib.hid (HG.out.next hb)
    clear HG
    have HG := HGq
    clear HGq
    have FCq := Lib.hid (FC.out.next hb)
    clear FC
    have FC := FCq
    clear FCq
    have BXq := Lib.hid (BX.out.next hb)
    clear BX
    have BX := BXq
    clear BXq
    clear hb
    clear hr3 hz3 hc3
    go_wp2_with fail
    refine (c8_readList H HG.out FC.out HM3.out R3.out).mono ?_
    rintro e w4 ⟨⟨A4, c4, rfl, hp4⟩, hb⟩
    have HBq := Lib.hid (HB.out.trans (hb.mono HB.out.size))
    clear HB
    have HB := HBq
    clear HBq
    have HGq := Lib.hid (HG.out.next hb)
    clear HG
    have HG := HGq
    clear HGq
    have FCq := Lib.hid (FC.out.next hb)
    clear FC
    have FC := FCq
    clear FCq
    have BXq := Lib.hid (BX.out.next hb)
    clear BX
    have BX := BXq
    clear BXq
    clear hb
    have F4 := Lib.hid hp4
    clear hp4
    go_wp2_with fail
    refine (c8_list H HG.out F4.out LS.out P3.out).mono ?_
    rintro e w5 ⟨⟨A5, c5, rfl, ha5⟩, hb⟩
    rw [HLM.out] at ha5 ⊢
    have HBq := Lib.hid (HB.out.trans (hb.mono HB.out.size))
    clear HB
    have HB := HBq
    clear HBq
    have HGq := Lib.hid (HG.out.next hb)
    clear HG
    have HG := HGq
    clear HGq
    have FCq := Lib.hid (FC.out.next hb)
    clear FC
    have FC := FCq
    clear FCq
    have BXq := Lib.hid (BX.out.next hb)
    clear BX
    have BX := BXq
    clear BXq
    have F4q := Lib.hid (F4.out.next hb)
    clear F4
    have F4 := F4q
    clear F4q
    clear hb
    have F5 := Lib.hid ha5
    clear ha5
    have s0 := FC.out.str c
    have s5 := F5.out.str c5
    have q0 := BX.out.c0
    have q1 := BX.out.c1
    have q2 := BX.out.c2
    have q3 := BX.out.c3
    have q4 := BX.out.c4
    have q5 := BX.out.c5
    have q6 := BX.out.c6
    dsimp only [sp0] at q0 q1 q2 q3 q4 q5 q6
    go_wp2
    go_ret
    exact ⟨rfl, HB.out⟩

set_option maxRecDepth 100000 in
set_option maxHeartbeats 8000000 in
theorem codeOne_n (H : CodeOk) (A : Option Addr) (n c : Nat) (bs : Bs) (m m1 : Nat) (w : World) (hb0 : BAsk w w.heap.size A n c bs) (hG : Glob w) (hm : (n ≤ 3000 ∧ n = m) ∨ (3000 < n ∧ m = 3000)) (hm1 : m1 = m - 1) (h1 : (spReadSQ (bs.take m)).2 ≠ 0) (h2 : (rdSetQ (bs.take m)).2 ≠ 0) (h3 : (rdListQ (bs.take m)).2 ≠ 0) :
    Calls Try.prog 5 #[.slice A n c] w fun e w' => e = .returned (.bool true) ∧ Below w.heap.size w w' := by
  have hmn : m ≤ n := by omega
  have hm3 : m ≤ 20000 := by omega
  have hnc := hb0.cap
  have hn := hb0.few
  unfold maxLen at hn
  have hl := (hb0.front hmn).reads.len
  have HMN := Lib.hid hmn
  have HLM := Lib.hid hl
  have HM3 := Lib.hid hm3
  have FB := Lib.hid hb0
  have HG := Lib.hid hG
  have HB := Lib.hid (Below.refl w.heap.size w)
  obtain ⟨s, e1, h1'⟩ : ∃ l e, spReadSQ (bs.take m) = (l, e) := ⟨_, _, rfl⟩
  obtain ⟨l, e2, h2'⟩ : ∃ l e, rdSetQ (bs.take m) = (l, e) := ⟨_, _, rfl⟩
  obtain ⟨ps, e3, h3'⟩ : ∃ l e, rdListQ (bs.take m) = (l, e) := ⟨_, _, rfl⟩
  rw [h1'] at h1
  rw [h2'] at h2
  rw [h3'] at h3
  have n1 : e1 ≠ 0 := h1
  have n2 : e2 ≠ 0 := h2
  have n3 : e3 ≠ 0 := h3
  obtain rfl := spec_none h1' n1
  obtain rfl := set_none h2' n2
  obtain rfl := list_none h3' n3
  have R2 := Lib.hid h2'
  have R3 := Lib.hid h3'
  have z1 : (e1 == 0) = false := by simpa using n1
  have z2 : (e2 == 0) = false := by simpa using n2
  have z3 : (e3 == 0) = false := by simpa using n3
  clear n1 n2 n3 h1 h2 h3
  have h1 := h1'
  have HC1 : Hid (∀ wx, BAsk wx wx.heap.size A m c (bs.take m) → Glob wx → Calls Try.prog 16 #[.slice A m c] wx fun e w' => e = .returned (.tuple #[.agg #[.int .i64 0, .int .i64 0, .int .i64 0, .string ⟨#[]⟩, .bool false, .int .i64 0, .int .i64 0], .int .i64 e1]) ∧ Below wx.heap.size wx w') := Lib.hid (fun wx ha hg => c8_readSpec H hg ha hm3 h1)
  clear hb0 hG h1 h1' h2' h3'
  rcases hm with ⟨hle, rfl⟩ | ⟨hgt, rfl⟩
  · subst hm1
    go_enter Try.func5, Try.ntmps5
    go_wp2_with fail
    refine (awake8_any H _ HG.out).mono ?_
    rintro e w1 ⟨rfl, hb⟩
    have HBq := Lib.hid (HB.out.trans (hb.mono HB.out.size))
    clear HB
    have HB := HBq
    clear HBq
    have HGq := Lib.hid (HG.out.next hb)
    clear HG
    have HG := HGq
    clear HGq
    have FBq := Lib.hid (FB.out.next hb)
    clear FB
    have FB := FBq
    clear FBq
    clear hb
    have FC := Lib.hid (FB.out.front HMN.out)
    clear FB
    go_wp2_with fail
    refine (HC1.out _ FC.out HG.out).mono ?_
    rintro e w2 ⟨rfl, hb⟩
    have HBq := Lib.hid (HB.out.trans (hb.mono HB.out.size))
    clear HB
    have HB := HBq
    clear HBq
    have HGq := Lib.hid (HG.out.next hb)
    clear HG
    have HG := HGq
    clear HGq
    have FCq := Lib.hid (FC.out.next hb)
    clear FC
    have FC := FCq
    clear FCq
    clear hb
    have BX : Hid (BoxS (w2.alloc (.cells #[.int .i64 0, .int .i64 0, .int .i64 0, .string ⟨#[]⟩, .bool false, .int .i64 0, .int .i64 0] 23)) w2.heap.size sp0) := Lib.hid (box_new w2 sp0)
    have hb := Below.alloc (Below.refl w2.heap.size w2) (Nat.le_refl _) (.cells #[.int .i64 0, .int .i64 0, .int .i64 0, .string ⟨#[]⟩, .bool false, .int .i64 0, .int .i64 0] 23)
    have HBq := Lib.hid (HB.out.trans (hb.mono HB.out.size))
    clear HB
    have HB := HBq
    clear HBq
    have HGq := Lib.hid (HG.out.next hb)
    clear HG
    have HG := HGq
    clear HGq
    have FCq := Lib.hid (FC.out.next hb)
    clear FC
    have FC := FCq
    clear FCq
    clear hb
    go_wp2_with fail
    refine (c8_readSet H HG.out FC.out HM3.out R2.out).mono ?_
    rintro e w3 ⟨⟨A3, c3, rfl, hr3, hz3, hc3⟩, hb⟩
    have HBq := Lib.hid (HB.out.trans (hb.mono HB.out.size))
    clear HB
    have HB := HBq
    clear HBq
    have HGq := Lib.hid (HG.out.next hb)
    clear HG
    have HG := HGq
    clear HGq
    have FCq := Lib.hid (FC.out.next hb)
    clear FC
    have FC := FCq
    clear FCq
    have BXq := Lib.hid (BX.out.next hb)
    clear BX
    have BX := BXq
    clear BXq
    clear hb
    clear hr3 hz3 hc3
    go_wp2_with fail
    refine (c8_readList H HG.out FC.out HM3.out R3.out).mono ?_
    rintro e w4 ⟨⟨A4, c4, rfl, hp4⟩, hb⟩
    have HBq := Lib.hid (HB.out.trans (hb.mono HB.out.size))
    clear HB
    have HB := HBq
    clear HBq
    have HGq := Lib.hid (HG.out.next hb)
    clear HG
    have HG := HGq
    clear HGq
    have FCq := Lib.hid (FC.out.next hb)
    clear FC
    have FC := FCq
    clear FCq
    have BXq := Lib.hid (BX.out.next hb)
    clear BX
    have BX := BXq
    clear BXq
    clear hb
    clear hp4
    have q0 := BX.out.c0
    have q1 := BX.out.c1
    have q2 := BX.out.c2
    have q3 := BX.out.c3
    have q4 := BX.out.c4
    have q5 := BX.out.c5
    have q6 := BX.out.c6
    dsimp only [sp0] at q0 q1 q2 q3 q4 q5 q6
    go_wp2
    go_ret
    exact ⟨rfl, HB.out⟩
  · obtain rfl : m1 = 2999 := by omega
    go_enter Try.func5, Try.ntmps5
    go_wp2_with fail
    refine (awake8_any H _ HG.out).mono ?_
    rintro e w1 ⟨rfl, hb⟩
    have HBq := Lib.hid (HB.out.trans (hb.mono HB.out.size))
    clear HB
    have HB := HBq
    clear HBq
    have HGq := Lib.hid (HG.out.next hb)
    clear HG
    have HG := HGq
    clear HGq
    have FBq := Lib.hid (FB.out.next hb)
    clear FB
    have FB := FBq
    clear FBq
    clear hb
    have FC := Lib.hid (FB.out.front HMN.out)
    clear FB
    go_wp2_with fail
    refine (HC1.out _ FC.out HG.out).mono ?_
    rintro e w2 ⟨rfl, hb⟩
    have HBq := Lib.hid (HB.out.trans (hb.mono HB.out.size))
    clear HB
    have HB := HBq
    clear HBq
    have HGq := Lib.hid (HG.out.next hb)
    clear HG
    have HG := HGq
    clear HGq
    have FCq := Lib.hid (FC.out.next hb)
    clear FC
    have FC := FCq
    clear FCq
    clear hb
    have BX : Hid (BoxS (w2.alloc (.cells #[.int .i64 0, .int .i64 0, .int .i64 0, .string ⟨#[]⟩, .bool false, .int .i64 0, .int .i64 0] 23)) w2.heap.size sp0) := Lib.hid (box_new w2 sp0)
    have hb := Below.alloc (Below.refl w2.heap.size w2) (Nat.le_refl _) (.cells #[.int .i64 0, .int .i64 0, .int .i64 0, .string ⟨#[]⟩, .bool false, .int .i64 0, .int .i64 0] 23)
    have HBq := Lib.hid (HB.out.trans (hb.mono HB.out.size))
    clear HB
    have HB := HBq
    clear HBq
    have HGq := Lib.hid (HG.out.next hb)
    clear HG
    have HG := HGq
    clear HGq
    have FCq := Lib.hid (FC.out.next hb)
    clear FC
    have FC := FCq
    clear FCq
    clear hb
    go_wp2_with fail
    refine (c8_readSet H HG.out FC.out HM3.out R2.out).mono ?_
    rintro e w3 ⟨⟨A3, c3, rfl, hr3, hz3, hc3⟩, hb⟩
    have HBq := Lib.hid (HB.out.trans (hb.mono HB.out.size))
    clear HB
    have HB := HBq
    clear HBq
    have HGq := Lib.hid (HG.out.next hb)
    clear HG
    have HG := HGq
    clear HGq
    have FCq := Lib.hid (FC.out.next hb)
    clear FC
    have FC := FCq
    clear FCq
    have BXq := Lib.hid (BX.out.next hb)
    clear BX
    have BX := BXq
    clear BXq
    clear hb
    clear hr3 hz3 hc3
    go_wp2_with fail
    refine (c8_readList H HG.out FC.out HM3.out R3.out).mono ?_
    rintro e w4 ⟨⟨A4, c4, rfl, hp4⟩, hb⟩
    have HBq := Lib.hid (HB.out.trans (hb.mono HB.out.size))
    clear HB
    have HB := HBq
    clear HBq
    have HGq := Lib.hid (HG.out.next hb)
    clear HG
    have HG := HGq
    clear HGq
    have FCq := Lib.hid (FC.out.next hb)
    clear FC
    have FC := FCq
    clear FCq
    have BXq := Lib.hid (BX.out.next hb)
    clear BX
    have BX := BXq
    clear BXq
    clear hb
    clear hp4
    have q0 := BX.out.c0
    have q1 := BX.out.c1
    have q2 := BX.out.c2
    have q3 := BX.out.c3
    have q4 := BX.out.c4
    have q5 := BX.out.c5
    have q6 := BX.out.c6
    dsimp only [sp0] at q0 q1 q2 q3 q4 q5 q6
    go_wp2
    go_ret
    exact ⟨rfl, HB.out⟩

theorem codeOne_walk (H : CodeOk) (A : Option Addr) (n c : Nat) (bs : Bs) (w : World) (hb : BAsk w w.heap.size A n c bs) (hG : Glob w) :
    Calls Try.prog 5 #[.slice A n c] w fun e w' => e = .returned (.bool true) ∧ Below w.heap.size w w' := by
  obtain ⟨m, hm⟩ : ∃ m : Nat, (n ≤ 3000 ∧ n = m) ∨ (3000 < n ∧ m = 3000) := by
    by_cases h : n ≤ 3000
    · exact ⟨n, .inl ⟨h, rfl⟩⟩
    · exact ⟨3000, .inr ⟨by omega, rfl⟩⟩
  by_cases h1 : (spReadSQ (bs.take m)).2 = 0
  · exact codeOne_s H A n c bs m (m - 1) w hb hG hm rfl (spReadSQ (bs.take m)).1 (by rw [← h1])
  · by_cases h2 : (rdSetQ (bs.take m)).2 = 0
    · exact codeOne_l H A n c bs m (m - 1) w hb hG hm rfl (rdSetQ (bs.take m)).1 (by rw [← h2])
    · by_cases h3 : (rdListQ (bs.take m)).2 = 0
      · exact codeOne_p H A n c bs m (m - 1) w hb hG hm rfl (rdListQ (bs.take m)).1 (by rw [← h3])
      · exact codeOne_n H A n c bs m (m - 1) w hb hG hm rfl h1 h2 h3

end Go.Proofs.Ytlpogkcfjbabaaa
