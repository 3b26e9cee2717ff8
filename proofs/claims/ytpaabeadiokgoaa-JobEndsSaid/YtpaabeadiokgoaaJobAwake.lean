/- The fixed answers that the statements of layer 11 ask for first, as a walk over the contracts. Written by gen/gen_joblaws.py. -/
import Derived.Test.YtpaabeadiokgoaaJobFace
namespace Go.Proofs.Ytpaabeadiokgoaa
open Go.RowKit

theorem aw11_1 : doE ⟨1, ⟨1, 1, 0, ⟨#[]⟩, false, 5, 0⟩, [], 0, 1, 0, 0⟩ 3 3 = 0 ∧ doJ ⟨1, ⟨1, 1, 0, ⟨#[]⟩, false, 5, 0⟩, [], 0, 1, 0, 0⟩ 3 3 = ⟨1, ⟨1, 1, 0, ⟨#[]⟩, false, 5, 0⟩, [], 2, 1, 3, 0⟩ := by
  have h : doE ⟨1, ⟨1, 1, 0, ⟨#[]⟩, false, 5, 0⟩, [], 0, 1, 0, 0⟩ 3 3 = 0 := by decide +kernel
  exact ⟨h, (doJ_ok h).trans rfl⟩
theorem aw11_2 : doE ⟨1, ⟨1, 1, 0, ⟨#[]⟩, false, 5, 0⟩, [], 2, 1, 3, 0⟩ 4 9 = 0 ∧ doJ ⟨1, ⟨1, 1, 0, ⟨#[]⟩, false, 5, 0⟩, [], 2, 1, 3, 0⟩ 4 9 = ⟨1, ⟨1, 1, 0, ⟨#[]⟩, false, 5, 0⟩, [], 3, 1, 3, 9⟩ := by
  have h : doE ⟨1, ⟨1, 1, 0, ⟨#[]⟩, false, 5, 0⟩, [], 2, 1, 3, 0⟩ 4 9 = 0 := by decide +kernel
  exact ⟨h, (doJ_ok h).trans rfl⟩
theorem aw11_i (x : Int) (h1 : -100 ≤ x) (h2 : x ≤ 100) : I64 x := by unfold I64; omega
theorem aw11_ask (w : World) : JAsk w none 0 0 ⟨1, ⟨1, 1, 0, ⟨#[]⟩, false, 5, 0⟩, [], 0, 1, 0, 0⟩ :=
  ⟨RI.nil, fun _ => rfl, Nat.le_refl _, Nat.zero_le _, ⟨aw11_i _ (by decide) (by decide), aw11_i _ (by decide) (by decide), aw11_i _ (by decide) (by decide), Nat.zero_le _, aw11_i _ (by decide) (by decide), aw11_i _ (by decide) (by decide)⟩,
    aw11_i _ (by decide) (by decide), aw11_i _ (by decide) (by decide), aw11_i _ (by decide) (by decide), aw11_i _ (by decide) (by decide), aw11_i _ (by decide) (by decide), fun n h => by cases h⟩
set_option maxRecDepth 100000 in
set_option maxHeartbeats 8000000 in
theorem awake11_any (H : JobOk) (w : World) : Calls Try.prog 6 #[] w fun e w' => e = .returned (.bool true) ∧ Below w.heap.size w w' := by
  obtain ⟨W, hW⟩ : ∃ W, W = w.alloc (jO ⟨1, ⟨1, 1, 0, ⟨#[]⟩, false, 5, 0⟩, [], 0, 1, 0, 0⟩ none 0 0) := ⟨_, rfl⟩
  have BX : Hid (BoxJ W w.heap.size ⟨1, ⟨1, 1, 0, ⟨#[]⟩, false, 5, 0⟩, [], 0, 1, 0, 0⟩ none 0 0) := Lib.hid (by rw [hW]; exact boxJ_new w _ none 0 0)
  have hb0 : Below w.heap.size w W := by rw [hW]; exact (Below.refl _ _).alloc (Nat.le_refl _) _
  have HB := Lib.hid hb0
  have J0 := Lib.hid (aw11_ask W)
  unfold jO at hW
  simp only at hW
  clear hb0
  have q0 := BX.out.c0
  have q1 := BX.out.c1
  have q2 := BX.out.c2
  have q3 := BX.out.c3
  have q4 := BX.out.c4
  have q5 := BX.out.c5
  have q6 := BX.out.c6
  have q7 := BX.out.c7
  have q8 := BX.out.c8
  have q9 := BX.out.c9
  have q10 := BX.out.c10
  have q11 := BX.out.c11
  have q12 := BX.out.c12
  rw [hW] at q0 q1 q2 q3 q4 q5 q6 q7 q8 q9 q10 q11 q12
  simp only at q0 q1 q2 q3 q4 q5 q6 q7 q8 q9 q10 q11 q12
  go_enter Try.func6, Try.ntmps6
  go_wp2_with fail
  rw [← hW]
  refine (h11_do H J0.out (by decide) (aw11_i _ (by decide) (by decide)) (aw11_i _ (by decide) (by decide)) aw11_1.2 aw11_1.1).mono ?_
  intro e w1 hz
  obtain ⟨⟨A1, m1, c1, rfl, hj1⟩, hb⟩ := jpost_out hz
  clear hz
  have HBq := Lib.hid (HB.out.trans (hb.mono HB.out.size))
  clear HB
  have HB := HBq
  clear HBq
  have BXq := Lib.hid (BX.out.next hb)
  clear BX
  have BX := BXq
  clear BXq
  have J0q := Lib.hid (J0.out.next hb)
  clear J0
  have J0 := J0q
  clear J0q
  clear hb
  have hm1 := jAsk_len hj1
  clear q0 q1 q2 q3 q4 q5 q6 q7 q8 q9 q10 q11 q12 hW
  have q0 := BX.out.c0
  have y0 := BX.out.frozen 0
  have q1 := BX.out.c1
  have y1 := BX.out.frozen 1
  have q2 := BX.out.c2
  have y2 := BX.out.frozen 2
  have q3 := BX.out.c3
  have y3 := BX.out.frozen 3
  have q4 := BX.out.c4
  have y4 := BX.out.frozen 4
  have q5 := BX.out.c5
  have y5 := BX.out.frozen 5
  have q6 := BX.out.c6
  have y6 := BX.out.frozen 6
  have q7 := BX.out.c7
  have y7 := BX.out.frozen 7
  have q8 := BX.out.c8
  have y8 := BX.out.frozen 8
  have q9 := BX.out.c9
  have y9 := BX.out.frozen 9
  have q10 := BX.out.c10
  have y10 := BX.out.frozen 10
  have q11 := BX.out.c11
  have y11 := BX.out.frozen 11
  have q12 := BX.out.c12
  have y12 := BX.out.frozen 12
  simp only at q0 q1 q2 q3 q4 q5 q6 q7 q8 q9 q10 q11 q12
  obtain ⟨V1, hV⟩ : ∃ V, V = (((((((((((((w1.setCell ⟨w.heap.size, 0, none⟩ (.int .i64 1)).setCell ⟨w.heap.size, 1, none⟩ (.int .i64 1)).setCell ⟨w.heap.size, 2, none⟩ (.int .i64 1)).setCell ⟨w.heap.size, 3, none⟩ (.int .i64 0)).setCell ⟨w.heap.size, 4, none⟩ (.string ⟨#[]⟩)).setCell ⟨w.heap.size, 5, none⟩ (.bool false)).setCell ⟨w.heap.size, 6, none⟩ (.int .i64 5)).setCell ⟨w.heap.size, 7, none⟩ (.int .i64 0)).setCell ⟨w.heap.size, 8, none⟩ (.slice A1 m1 c1)).setCell ⟨w.heap.size, 9, none⟩ (.int .i64 2)).setCell ⟨w.heap.size, 10, none⟩ (.int .i64 1)).setCell ⟨w.heap.size, 11, none⟩ (.int .i64 3)).setCell ⟨w.heap.size, 12, none⟩ (.int .i64 0)) := ⟨_, rfl⟩
  have hbv : Below w.heap.size w V1 := by rw [hV]; exact below_store HB.out (Nat.le_refl _)
  have BX1 : Hid (BoxJ V1 w.heap.size ⟨1, ⟨1, 1, 0, ⟨#[]⟩, false, 5, 0⟩, [], 2, 1, 3, 0⟩ A1 m1 c1) := Lib.hid (by rw [hV]; exact BX.out.store ⟨1, ⟨1, 1, 0, ⟨#[]⟩, false, 5, 0⟩, [], 2, 1, 3, 0⟩ A1 m1 c1)
  have J1 : Hid (JAsk V1 A1 m1 c1 ⟨1, ⟨1, 1, 0, ⟨#[]⟩, false, 5, 0⟩, [], 2, 1, 3, 0⟩) := Lib.hid (by
    subst hm1
    exact ⟨RI.nil, hj1.nil, hj1.cap, hj1.few, hj1.spec, hj1.int⟩)
  have HB2 := Lib.hid hbv
  clear HB
  have HB := HB2
  clear HB2 hbv BX J0 hj1
  have BX := BX1
  clear BX1
  have s0 := BX.out.c0
  have s1 := BX.out.c1
  have s2 := BX.out.c2
  have s3 := BX.out.c3
  have s4 := BX.out.c4
  have s5 := BX.out.c5
  have s6 := BX.out.c6
  have s7 := BX.out.c7
  have s8 := BX.out.c8
  have s9 := BX.out.c9
  have s10 := BX.out.c10
  have s11 := BX.out.c11
  have s12 := BX.out.c12
  rw [hV] at s0 s1 s2 s3 s4 s5 s6 s7 s8 s9 s10 s11 s12
  simp only at s0 s1 s2 s3 s4 s5 s6 s7 s8 s9 s10 s11 s12
  have hmm : m1 ≤ 100 := by rw [← hm1]; decide
  go_wp2_with fail
  rw [← hV]
  clear s0 y0 s1 y1 s2 y2 s3 y3 s4 y4 s5 y5 s6 y6 s7 y7 s8 y8 s9 y9 s10 y10 s11 y11 s12 y12
  refine (h11_do H J1.out hmm (aw11_i _ (by decide) (by decide)) (aw11_i _ (by decide) (by decide)) aw11_2.2 aw11_2.1).mono ?_
  intro e w2 hz
  obtain ⟨⟨A2, m2, c2, rfl, hj2⟩, hb⟩ := jpost_out hz
  clear hz
  have HBq := Lib.hid (HB.out.trans (hb.mono HB.out.size))
  clear HB
  have HB := HBq
  clear HBq
  have BXq := Lib.hid (BX.out.next hb)
  clear BX
  have BX := BXq
  clear BXq
  have J1q := Lib.hid (J1.out.next hb)
  clear J1
  have J1 := J1q
  clear J1q
  clear hb
  have hm2 := jAsk_len hj2
  clear q0 q1 q2 q3 q4 q5 q6 q7 q8 q9 q10 q11 q12 hV
  have q0 := BX.out.c0
  have y0 := BX.out.frozen 0
  have q1 := BX.out.c1
  have y1 := BX.out.frozen 1
  have q2 := BX.out.c2
  have y2 := BX.out.frozen 2
  have q3 := BX.out.c3
  have y3 := BX.out.frozen 3
  have q4 := BX.out.c4
  have y4 := BX.out.frozen 4
  have q5 := BX.out.c5
  have y5 := BX.out.frozen 5
  have q6 := BX.out.c6
  have y6 := BX.out.frozen 6
  have q7 := BX.out.c7
  have y7 := BX.out.frozen 7
  have q8 := BX.out.c8
  have y8 := BX.out.frozen 8
  have q9 := BX.out.c9
  have y9 := BX.out.frozen 9
  have q10 := BX.out.c10
  have y10 := BX.out.frozen 10
  have q11 := BX.out.c11
  have y11 := BX.out.frozen 11
  have q12 := BX.out.c12
  have y12 := BX.out.frozen 12
  simp only at q0 q1 q2 q3 q4 q5 q6 q7 q8 q9 q10 q11 q12
  obtain ⟨V2, hV⟩ : ∃ V, V = (((((((((((((w2.setCell ⟨w.heap.size, 0, none⟩ (.int .i64 1)).setCell ⟨w.heap.size, 1, none⟩ (.int .i64 1)).setCell ⟨w.heap.size, 2, none⟩ (.int .i64 1)).setCell ⟨w.heap.size, 3, none⟩ (.int .i64 0)).setCell ⟨w.heap.size, 4, none⟩ (.string ⟨#[]⟩)).setCell ⟨w.heap.size, 5, none⟩ (.bool false)).setCell ⟨w.heap.size, 6, none⟩ (.int .i64 5)).setCell ⟨w.heap.size, 7, none⟩ (.int .i64 0)).setCell ⟨w.heap.size, 8, none⟩ (.slice A2 m2 c2)).setCell ⟨w.heap.size, 9, none⟩ (.int .i64 3)).setCell ⟨w.heap.size, 10, none⟩ (.int .i64 1)).setCell ⟨w.heap.size, 11, none⟩ (.int .i64 3)).setCell ⟨w.heap.size, 12, none⟩ (.int .i64 9)) := ⟨_, rfl⟩
  have hbv : Below w.heap.size w V2 := by rw [hV]; exact below_store HB.out (Nat.le_refl _)
  have BX2 : Hid (BoxJ V2 w.heap.size ⟨1, ⟨1, 1, 0, ⟨#[]⟩, false, 5, 0⟩, [], 3, 1, 3, 9⟩ A2 m2 c2) := Lib.hid (by rw [hV]; exact BX.out.store ⟨1, ⟨1, 1, 0, ⟨#[]⟩, false, 5, 0⟩, [], 3, 1, 3, 9⟩ A2 m2 c2)
  have J2 : Hid (JAsk V2 A2 m2 c2 ⟨1, ⟨1, 1, 0, ⟨#[]⟩, false, 5, 0⟩, [], 3, 1, 3, 9⟩) := Lib.hid (by
    subst hm2
    exact ⟨RI.nil, hj2.nil, hj2.cap, hj2.few, hj2.spec, hj2.int⟩)
  have HB2 := Lib.hid hbv
  clear HB
  have HB := HB2
  clear HB2 hbv BX J1 hj2
  have BX := BX2
  clear BX2
  have s0 := BX.out.c0
  have s1 := BX.out.c1
  have s2 := BX.out.c2
  have s3 := BX.out.c3
  have s4 := BX.out.c4
  have s5 := BX.out.c5
  have s6 := BX.out.c6
  have s7 := BX.out.c7
  have s8 := BX.out.c8
  have s9 := BX.out.c9
  have s10 := BX.out.c10
  have s11 := BX.out.c11
  have s12 := BX.out.c12
  rw [hV] at s0 s1 s2 s3 s4 s5 s6 s7 s8 s9 s10 s11 s12
  simp only at s0 s1 s2 s3 s4 s5 s6 s7 s8 s9 s10 s11 s12
  go_wp2_with fail
  rw [← hV]
  refine (h11_over H (aw11_i _ (by decide) (by decide)) (show overJ 3 = true by decide)).mono ?_
  rintro e w3 ⟨rfl, hb⟩
  have HBq := Lib.hid (HB.out.trans (hb.mono HB.out.size))
  clear HB
  have HB := HBq
  clear HBq
  have BXq := Lib.hid (BX.out.next hb)
  clear BX
  have BX := BXq
  clear BXq
  have J2q := Lib.hid (J2.out.next hb)
  clear J2
  have J2 := J2q
  clear J2q
  clear hb
  clear hV s0 q0 y0 s1 q1 y1 s2 q2 y2 s3 q3 y3 s4 q4 y4 s5 q5 y5 s6 q6 y6 s7 q7 y7 s8 q8 y8 s9 q9 y9 s10 q10 y10 s11 q11 y11 s12 q12 y12
  have s0 := BX.out.c0
  have s1 := BX.out.c1
  have s2 := BX.out.c2
  have s3 := BX.out.c3
  have s4 := BX.out.c4
  have s5 := BX.out.c5
  have s6 := BX.out.c6
  have s7 := BX.out.c7
  have s8 := BX.out.c8
  have s9 := BX.out.c9
  have s10 := BX.out.c10
  have s11 := BX.out.c11
  have s12 := BX.out.c12
  simp only at s0 s1 s2 s3 s4 s5 s6 s7 s8 s9 s10 s11 s12
  go_wp2_with fail
  refine (h11_name H (aw11_i _ (by decide) (by decide)) (show nameJ 3 = ⟨#[100, 111, 110, 101]⟩ by rfl)).mono ?_
  rintro e w4 ⟨rfl, hb⟩
  have HBq := Lib.hid (HB.out.trans (hb.mono HB.out.size))
  clear HB
  have HB := HBq
  clear HBq
  have BXq := Lib.hid (BX.out.next hb)
  clear BX
  have BX := BXq
  clear BXq
  have J2q := Lib.hid (J2.out.next hb)
  clear J2
  have J2 := J2q
  clear J2q
  clear hb
  go_wp2
  go_ret
  exact ⟨rfl, HB.out⟩

end Go.Proofs.Ytpaabeadiokgoaa
